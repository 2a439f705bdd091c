/-
Several texts in one: Ii Tb Qx Rt Tc Td Tk Ij Hc Hw Dp Hd.
-/
import Derived.Test.YtmiopphcfdlneaaGreatCx4
set_option maxRecDepth 100000
set_option maxHeartbeats 8000000
set_option linter.unusedVariables false
set_option linter.unusedSimpArgs false
namespace Go.Proofs.YtmiopphcfdlneaaGreat
open Go.RowKit
theorem qkk (s : Gm.Ship) (h : ¬ Gm.qaX s) (ty : Gm.qdK s) (Bf : Nat) (w : World) (hf : Box w Bf 205 #[.func (.func 154) #[] #[]]) :
 Calls Tryz.prog 180 #[.agg s.cells.toArray, .pointer (some ⟨Bf, 0, none⟩)] w fun e w' => e = .returned (.bool true) /\ Below w.heap.size w w' := by
 have c1 := fun X => qh (qk4 s h ty X)
 have hK : ∀ o, (w.alloc o).cell? ⟨Bf, 0, none⟩ = some (.func (.func 154) #[] #[]) := fun o => (hf.alloc o).cell 0
 obtain ⟨on, x, y, vx, vy, cool, score⟩ := s
 simp only [Gm.Ship.cells] at c1 ⊢
 clear h hf ty
 go_enter Tryz.func180, Tryz.ntmps180
 go_wp2_with (go_at_call 154; ((with_reducible refine ((c1 _).out).mono ?_); rintro e w1 ⟨rfl, hb1⟩))
 go_ret
 exact ⟨rfl, (qac w _).trans (hb1.mono (by simp))⟩
theorem qiG (f : Nat -> Gm.Ship) (A : Option Addr) (c : Nat) (Bf : Nat) (w : World) (hno : ¬ ∀ i (h : i < 8), Gm.qaX (f i)) (hty : ∀ i (h : i < 8), Gm.qdK (f i)) (hr : Lies w w.heap.size 7 A 8 (Gm.qbd f)) (hf : Box w Bf 205 #[.func (.func 154) #[] #[]]) :
 Calls Tryz.prog 195 #[.slice A 8 c, .func (.func 180) #[] #[.pointer (some ⟨Bf, 0, none⟩)]] w fun e w' => (∃ k : Nat, e = .returned (.int .i64 k)) /\ Below w.heap.size w w' := by
 have HNO := qh hno
 clear hno
 go_enter Tryz.func195, Tryz.ntmps195
 go_wp2
 go_loopw [8] (fun i wr => ∃ k : Nat, k <= 8 /\ i = .int .i64 k /\ (∀ j (hj : j < k), Gm.qaX (f j)) /\ Below w.heap.size w wr) (fun i _ => 8 - (intOf i).toNat)
 case atStart => exact ⟨0, by omega, rfl, fun j hj => absurd hj (Nat.not_lt_zero j), Below.refl _ _⟩
 case round =>
  obtain ⟨k, hk, rfl, hall, hb⟩ := hrel
  by_cases hlt : k < 8
  · have hbs := hb.size
    obtain ⟨ad, rfl, hbl, e0, e1, e2, e3, e4, e5, e6⟩ := qlJ (hr.below hb) k hlt
    have cty := hty k hlt
    have hfb := hf.below hb hf.lt
    have hkn : (k : Int) < 8 := by omega
    by_cases ho : Gm.qaX (f k)
    · have hall2 : ∀ j (hj : j < k + 1), Gm.qaX (f j) := fun j hj => by
       by_cases e : j = k
       · subst e; exact ho
       · exact hall j (by omega)
      have cc := fun X hX => qh (qfT (f k) ho Bf X hX)
      generalize f k = s at e0 e1 e2 e3 e4 e5 e6 ho cc cty
      obtain ⟨on, x, y, vx, vy, cool, score⟩ := s
      dsimp only at e0 e1 e2 e3 e4 e5 e6
      simp only [Gm.Ship.cells] at cc
      have HB := qh hb
      have HF := qh hfb
      have HALL := qh hall2
      clear hr ho hb hf hfb hty cty hall hall2
      go_wp2_with (go_at_call 180; ((with_reducible refine ((cc _ (by first | exact HF.out)).out).mono ?_); rintro e w1 ⟨rfl, hb1⟩))
      go_roundw
      case rel => exact ⟨k + 1, by omega, by go_num, HALL.out, HB.out.trans (hb1.mono HB.out.size)⟩
      case measure => simp [intOf]; omega
    · have cc := fun X hX => qh (qkk (f k) ho cty Bf X hX)
      generalize f k = s at e0 e1 e2 e3 e4 e5 e6 ho cc cty
      obtain ⟨on, x, y, vx, vy, cool, score⟩ := s
      dsimp only at e0 e1 e2 e3 e4 e5 e6
      simp only [Gm.Ship.cells] at cc
      have HB := qh hb
      have HF := qh hfb
      clear hr ho hb hf hfb hty cty hall
      go_wp2_with (go_at_call 180; ((with_reducible refine ((cc _ (by first | exact HF.out)).out).mono ?_); rintro e w1 ⟨rfl, hb1⟩))
      go_ret
      exact ⟨⟨k, rfl⟩, HB.out.trans (hb1.mono HB.out.size)⟩
  · exact absurd (fun i hi => hall i (by omega)) HNO.out
theorem qf1 (f : Nat -> Gm.Ship) (A : Option Addr) (c : Nat) (Bf : Nat) (w : World) (hno : ¬ ∀ i (h : i < 8), Gm.qaX (f i)) (hty : ∀ i (h : i < 8), Gm.qdK (f i)) (hr : Lies w w.heap.size 7 A 8 (Gm.qbd f)) (hf : Box w Bf 205 #[.func (.func 154) #[] #[]]) :
 Calls Tryz.prog 179 #[.slice A 8 c, .func (.func 180) #[] #[.pointer (some ⟨Bf, 0, none⟩)]] w fun e w' => e = .returned (.bool true) /\ Below w.heap.size w w' := by
 have c1 := qh (qiG f A c Bf w hno hty hr hf)
 clear hr hf hno hty
 go_enter Tryz.func179, Tryz.ntmps179
 go_wp2_with (go_at_call 195; ((with_reducible refine ((c1).out).mono ?_); rintro e w1 ⟨⟨k, rfl⟩, hb1⟩; have hd : decide (0 <= (k : Int)) = true := decide_eq_true (by omega)))
 go_ret
 exact ⟨rfl, hb1⟩
theorem qlA (f : Nat -> Gm.Ship) (A : Option Addr) (c : Nat) (w : World) (hno : ¬ ∀ i (h : i < 8), Gm.qaX (f i)) (hty : ∀ i (h : i < 8), Gm.qdK (f i)) (hr : Lies w w.heap.size 7 A 8 (Gm.qbd f)) :
 Calls Tryz.prog 153 #[.slice A 8 c, .func (.func 154) #[] #[]] w fun e w' => e = .returned (.bool false) /\ Below w.heap.size w w' := by
 have hmf : ∀ (fn : Fn) (first cap : Array Value) (w : World), (Instr.makeFunc fn first cap).run Tryz.prog w = .ok (.func fn first cap) w := fun _ _ _ _ => rfl
 have hb0 := qac w (.cells #[.func (.func 154) #[] #[]] 205)
 have c1 := qh (qf1 f A c w.heap.size _ hno hty ((hr.below hb0).wider hb0.size) (Box.made w _ _))
 have hbz := qh hb0
 clear hr hb0 hno hty
 go_enter Tryz.func153, Tryz.ntmps153
 go_wp2_with (go_at_call 179; ((with_reducible refine ((c1).out).mono ?_); rintro e w1 ⟨rfl, hb1⟩))
 go_ret
 exact ⟨rfl, hbz.out.trans (hb1.mono hbz.out.size)⟩
theorem qkj (s : Gm.Shot) (h : ¬ Gm.qa7 s) (ty : Gm.qdN s) (Bf : Nat) (w : World) (hf : Box w Bf 207 #[.func (.func 156) #[] #[]]) :
 Calls Tryz.prog 184 #[.agg s.cells.toArray, .pointer (some ⟨Bf, 0, none⟩)] w fun e w' => e = .returned (.bool true) /\ Below w.heap.size w w' := by
 have c1 := fun X => qh (show Calls Tryz.prog 156 #[.agg s.cells.toArray] X (fun e w' => e = .returned (.bool false) /\ Below X.heap.size X w') by obtain ⟨a, b, c, d, e, f⟩ := s; exact qk0 a b c d e f h ty X)
 have hK : ∀ o, (w.alloc o).cell? ⟨Bf, 0, none⟩ = some (.func (.func 156) #[] #[]) := fun o => (hf.alloc o).cell 0
 obtain ⟨owner, x, y, vx, vy, left⟩ := s
 simp only [Gm.Shot.cells] at c1 ⊢
 clear h hf ty
 go_enter Tryz.func184, Tryz.ntmps184
 go_wp2_with (go_at_call 156; ((with_reducible refine ((c1 _).out).mono ?_); rintro e w1 ⟨rfl, hb1⟩))
 go_ret
 exact ⟨rfl, (qac w _).trans (hb1.mono (by simp))⟩
theorem qiE (l : List Gm.Shot) (n : Nat) (A : Option Addr) (c : Nat) (Bf : Nat) (w : World) (hno : ¬ ∀ i (h : i < l.length), Gm.qa7 (l[i])) (hty : ∀ i (h : i < l.length), Gm.qdN (l[i])) (hn : n = l.length) (hn32 : n <= 32) (hr : Lies w w.heap.size 6 A n (Gm.qad l)) (hf : Box w Bf 207 #[.func (.func 156) #[] #[]]) :
 Calls Tryz.prog 197 #[.slice A n c, .func (.func 184) #[] #[.pointer (some ⟨Bf, 0, none⟩)]] w fun e w' => (∃ k : Nat, e = .returned (.int .i64 k)) /\ Below w.heap.size w w' := by
 have hN := qh hn
 clear hn
 have HNO := qh hno
 clear hno
 go_enter Tryz.func197, Tryz.ntmps197
 go_wp2
 go_loopw [8] (fun i wr => ∃ k : Nat, k <= n /\ i = .int .i64 k /\ (∀ j (hj : j < k), ∀ hjl : j < l.length, Gm.qa7 (l[j]'hjl)) /\ Below w.heap.size w wr) (fun i _ => n - (intOf i).toNat)
 case atStart => exact ⟨0, by omega, rfl, fun j hj => absurd hj (Nat.not_lt_zero j), Below.refl _ _⟩
 case round =>
  obtain ⟨k, hk, rfl, hall, hb⟩ := hrel
  by_cases hlt : k < n
  · have hbs := hb.size
    have hkl : k < l.length := by have := hN.out; omega
    obtain ⟨ad, rfl, hbl, e0, e1, e2, e3, e4, e5⟩ := qd0 (hr.below hb) hN.out k (by have := hN.out; omega)
    have cty := hty k hkl
    have hfb := hf.below hb hf.lt
    have hkn : (k : Int) < n := by omega
    by_cases ho : Gm.qa7 (l[k]'hkl)
    · have hall2 : ∀ j (hj : j < k + 1), ∀ hjl : j < l.length, Gm.qa7 (l[j]'hjl) := fun j hj => by
       by_cases e : j = k
       · subst e; exact fun _ => ho
       · exact hall j (by omega)
      have cc := fun X hX => qh (qfS (l[k]'hkl) ho Bf X hX)
      generalize l[k]'hkl = s at e0 e1 e2 e3 e4 e5 ho cc cty
      obtain ⟨owner, x, y, vx, vy, left⟩ := s
      dsimp only at e0 e1 e2 e3 e4 e5
      simp only [Gm.Shot.cells] at cc
      have HB := qh hb
      have HF := qh hfb
      have HALL := qh hall2
      clear hr ho hb hf hfb hty cty hall hall2
      go_wp2_with (go_at_call 184; ((with_reducible refine ((cc _ (by first | exact HF.out)).out).mono ?_); rintro e w1 ⟨rfl, hb1⟩))
      go_roundw
      case rel => exact ⟨k + 1, by omega, by go_num, HALL.out, HB.out.trans (hb1.mono HB.out.size)⟩
      case measure => simp [intOf]; omega
    · have cc := fun X hX => qh (qkj (l[k]'hkl) ho cty Bf X hX)
      generalize l[k]'hkl = s at e0 e1 e2 e3 e4 e5 ho cc cty
      obtain ⟨owner, x, y, vx, vy, left⟩ := s
      dsimp only at e0 e1 e2 e3 e4 e5
      simp only [Gm.Shot.cells] at cc
      have HB := qh hb
      have HF := qh hfb
      clear hr ho hb hf hfb hty cty hall
      go_wp2_with (go_at_call 184; ((with_reducible refine ((cc _ (by first | exact HF.out)).out).mono ?_); rintro e w1 ⟨rfl, hb1⟩))
      go_ret
      exact ⟨⟨k, rfl⟩, HB.out.trans (hb1.mono HB.out.size)⟩
  · exact absurd (fun i hi => hall i (by have := hN.out; omega) hi) HNO.out
theorem qf0 (l : List Gm.Shot) (n : Nat) (A : Option Addr) (c : Nat) (Bf : Nat) (w : World) (hno : ¬ ∀ i (h : i < l.length), Gm.qa7 (l[i])) (hty : ∀ i (h : i < l.length), Gm.qdN (l[i])) (hn : n = l.length) (hn32 : n <= 32) (hr : Lies w w.heap.size 6 A n (Gm.qad l)) (hf : Box w Bf 207 #[.func (.func 156) #[] #[]]) :
 Calls Tryz.prog 183 #[.slice A n c, .func (.func 184) #[] #[.pointer (some ⟨Bf, 0, none⟩)]] w fun e w' => e = .returned (.bool true) /\ Below w.heap.size w w' := by
 have c1 := qh (qiE l n A c Bf w hno hty hn hn32 hr hf)
 clear hr hf hno hty hn
 go_enter Tryz.func183, Tryz.ntmps183
 go_wp2_with (go_at_call 197; ((with_reducible refine ((c1).out).mono ?_); rintro e w1 ⟨⟨k, rfl⟩, hb1⟩; have hd : decide (0 <= (k : Int)) = true := decide_eq_true (by omega)))
 go_ret
 exact ⟨rfl, hb1⟩
theorem qlz (l : List Gm.Shot) (n : Nat) (A : Option Addr) (c : Nat) (w : World) (hno : ¬ ∀ i (h : i < l.length), Gm.qa7 (l[i])) (hty : ∀ i (h : i < l.length), Gm.qdN (l[i])) (hn : n = l.length) (hn32 : n <= 32) (hr : Lies w w.heap.size 6 A n (Gm.qad l)) :
 Calls Tryz.prog 155 #[.slice A n c, .func (.func 156) #[] #[]] w fun e w' => e = .returned (.bool false) /\ Below w.heap.size w w' := by
 have hmf : ∀ (fn : Fn) (first cap : Array Value) (w : World), (Instr.makeFunc fn first cap).run Tryz.prog w = .ok (.func fn first cap) w := fun _ _ _ _ => rfl
 have hb0 := qac w (.cells #[.func (.func 156) #[] #[]] 207)
 have c1 := qh (qf0 l n A c w.heap.size _ hno hty hn hn32 ((hr.below hb0).wider hb0.size) (Box.made w _ _))
 have hbz := qh hb0
 clear hr hb0 hno hty hn
 go_enter Tryz.func155, Tryz.ntmps155
 go_wp2_with (go_at_call 183; ((with_reducible refine ((c1).out).mono ?_); rintro e w1 ⟨rfl, hb1⟩))
 go_ret
 exact ⟨rfl, hbz.out.trans (hb1.mono hbz.out.size)⟩
theorem qqm (g : Gm.G) (A : Option Addr) (n c : Nat) (w : World) (hg : ¬ Gm.ok g) (hty : Gm.ty g) (hn : n = g.qaa.length) (hn63 : n <= maxLen) (hr : Lies w w.heap.size 6 A n (Gm.qad g.qaa)) :
 Calls Tryz.prog 124 #[.agg (Gm.cells g (.slice A n c))] w fun e w' => e = .returned (.bool false) /\ Below w.heap.size w w' := by
 have B0 := Box.made w 31 (Gm.cells g (.slice A n c))
 have hb0 := qac w (.cells (Gm.cells g (.slice A n c)) 31)
 have hc : ∀ j, (w.alloc (.cells (Gm.cells g (.slice A n c)) 31)).cell? ⟨w.heap.size, j, none⟩ = (Gm.cells g (.slice A n c))[j]? := fun j => B0.cell j
 have h0 := Gm.qa1 g (.slice A n c)
 have h58 := Gm.qbc g (.slice A n c)
 have BB := qh B0
 have HB := qh hb0
 by_cases hf : g.frame < 0
 · have d1 : decide (g.frame < 0) = true := decide_eq_true hf
   clear hr B0 hb0 hn hg hty
   go_enter Tryz.func124, Tryz.ntmps124
   go_wp2
   go_ret
   exact ⟨rfl, HB.out⟩
 have d1 : decide (g.frame < 0) = false := decide_eq_false hf
 by_cases hf2 : 1048576 < g.frame
 · have d2 : decide (1048576 < g.frame) = true := decide_eq_true hf2
   clear hr B0 hb0 hn hg hty
   go_enter Tryz.func124, Tryz.ntmps124
   go_wp2
   go_ret
   exact ⟨rfl, HB.out⟩
 have d2 : decide (1048576 < g.frame) = false := decide_eq_false hf2
 by_cases hf3 : 32 < n
 · have d3 : decide (32 < (n : Int)) = true := decide_eq_true (by omega)
   clear hr B0 hb0 hn hg hty
   go_enter Tryz.func124, Tryz.ntmps124
   go_wp2
   go_ret
   exact ⟨rfl, HB.out⟩
 have d3 : decide (32 < (n : Int)) = false := decide_eq_false (by omega)
 by_cases hs : ∀ i, i < 8 -> Gm.qaX (g.ship i)
 · have hs2 : ¬ ∀ i (h : i < g.qaa.length), Gm.qa7 g.qaa[i] := fun hh => hg ⟨by omega, by omega, by omega, hs, hh⟩
   have c1 := qh (qhk g.ship (some ⟨w.heap.size, 2, none⟩) 8 _ hs (qgy B0))
   have c2 := fun X (hX : Below w.heap.size w X) => qh (qlz g.qaa n A c X hs2 hty.2.2.2 hn (by omega) ((hr.below hX).wider hX.size))
   clear hr B0 hb0 hn hg hty hs hs2
   go_enter Tryz.func124, Tryz.ntmps124
   go_wp2_with (first | (go_at_call 153; ((with_reducible refine ((c1).out).mono ?_); rintro e w1 ⟨rfl, hb1⟩; have hc1 := (BB.out.below hb1 BB.out.lt).cell; have HB1 := qh (HB.out.trans (hb1.mono HB.out.size)))) | (go_at_call 155; ((with_reducible refine ((c2 _ (HB1.out)).out).mono ?_); rintro e w2 ⟨rfl, hb2⟩)))
   go_ret
   exact ⟨rfl, HB1.out.trans (hb2.mono HB1.out.size)⟩
 · have c1 := qh (qlA g.ship (some ⟨w.heap.size, 2, none⟩) 8 _ hs hty.2.2.1 (qgy B0))
   clear hr B0 hb0 hn hg hty hs
   go_enter Tryz.func124, Tryz.ntmps124
   go_wp2_with (go_at_call 153; ((with_reducible refine ((c1).out).mono ?_); rintro e w1 ⟨rfl, hb1⟩; have HB1 := qh (HB.out.trans (hb1.mono HB.out.size))))
   go_ret
   exact ⟨rfl, HB1.out⟩
open Go.RowKit Go.Shelf
attribute [local go_sem] Oper.semAt_some
theorem qdy (i : Int) (w : World) :
 Calls Tryz.prog 176 #[.int .i64 i] w fun e w' => e = .returned (.bool (decide (0 <= i /\ i < 12))) /\ w = w' := by
 go_enter Tryz.func176, Tryz.ntmps176
 go_wp2
 all_goals
  go_ret
  exact ⟨qal (by rw [Bool.eq_iff_iff]; simp; omega), rfl⟩
theorem qdx (i : Int) (w : World) :
 Calls Tryz.prog 148 #[.int .i64 i] w fun e w' => e = .returned (.bool (decide (0 <= i /\ i < 8))) /\ w = w' := by
 go_enter Tryz.func148, Tryz.ntmps148
 go_wp2
 all_goals
  go_ret
  exact ⟨qal (by rw [Bool.eq_iff_iff]; simp; omega), rfl⟩
theorem qk5 (p g : Int) (w : World) :
 Calls Tryz.prog 191 #[.agg #[.int .i64 p, .int .i64 g]] w fun e w' => e = .returned (.bool (decide ((0 <= g /\ g <= 60000) /\ (p = -1 \/ ((0 <= p /\ p < 12) /\ 0 < g))))) /\ Below w.heap.size w w' := by
 have c1 := fun X => qh (qdy p X)
 by_cases hg : g < 0
 · go_enter Tryz.func191, Tryz.ntmps191
   go_wp2
   go_ret
   exact ⟨qal (by (try rw [Bool.eq_iff_iff]) <;> simp <;> omega), qac _ _⟩
 by_cases hg2 : 60000 < g
 · go_enter Tryz.func191, Tryz.ntmps191
   go_wp2
   go_ret
   exact ⟨qal (by (try rw [Bool.eq_iff_iff]) <;> simp <;> omega), qac _ _⟩
 by_cases hp : p = -1
 · subst hp
   go_enter Tryz.func191, Tryz.ntmps191
   go_wp2
   go_ret
   exact ⟨qal (by (try rw [Bool.eq_iff_iff]) <;> simp <;> omega), qac _ _⟩
 have hpb : (p == -1) = false := by simpa using hp
 by_cases hq : 0 <= p /\ p < 12
 · rw [decide_eq_true hq] at c1
   by_cases hg0 : 0 < g
   · go_enter Tryz.func191, Tryz.ntmps191
     go_wp2_with (go_at_call 176; ((with_reducible refine ((c1 _).out).mono ?_); rintro e w1 ⟨rfl, rfl⟩))
     go_ret
     exact ⟨qal (by (try rw [Bool.eq_iff_iff]) <;> simp <;> omega), qac _ _⟩
   · go_enter Tryz.func191, Tryz.ntmps191
     go_wp2_with (go_at_call 176; ((with_reducible refine ((c1 _).out).mono ?_); rintro e w1 ⟨rfl, rfl⟩))
     go_ret
     exact ⟨qal (by (try rw [Bool.eq_iff_iff]) <;> simp <;> omega), qac _ _⟩
 · rw [decide_eq_false hq] at c1
   have HQ := qh hq
   clear hq
   go_enter Tryz.func191, Tryz.ntmps191
   go_wp2_with (go_at_call 176; ((with_reducible refine ((c1 _).out).mono ?_); rintro e w1 ⟨rfl, rfl⟩))
   go_ret
   have hq := HQ.out
   exact ⟨qal (by (try rw [Bool.eq_iff_iff]) <;> simp <;> omega), qac _ _⟩
theorem qjh (B : Nat) (w : World) :
 Calls Tryz.prog 97 #[.pointer (some ⟨B, 0, none⟩)] w fun e w' => e = .returned (.func (.func 133) #[] #[.pointer (some ⟨w.heap.size, 0, none⟩)]) /\ w' = w.alloc (.cells #[.pointer (some ⟨B, 0, none⟩)] 150) := by
 have hmf : ∀ (fn : Fn) (first cap : Array Value) (w : World), (Instr.makeFunc fn first cap).run Tryz.prog w = .ok (.func fn first cap) w := fun _ _ _ _ => rfl
 go_enter Tryz.func97, Tryz.ntmps97
 go_wp2
 go_ret
 exact ⟨rfl, rfl⟩
abbrev qkA (B : Nat) (x : Ros.Sl) : Array Value := #[.int .i64 x.1, .pointer (some ⟨B, 1 + x.1 * 2, none⟩)]
def qdi (B Bg : Nat) (W : World) : Prop := W.cell? ⟨Bg, 0, none⟩ = some (.pointer (some ⟨B, 0, none⟩))
theorem qdi.below {B Bg : Nat} {w W : World} (h : qdi B Bg w) (hb : Below w.heap.size w W) : qdi B Bg W :=
 (World.cell?_of_block (hb.block _ (World.block_lt_of_cell? w _ h))).trans h
def qng (B Bg : Nat) (W W' : World) : Prop := qdi B Bg W -> qdi B Bg W'
theorem qnC {B Bg : Nat} {X Y Z : World} (h : qng B Bg X Y) (k : qng B Bg Y Z) : qng B Bg X Z := fun hx => k (h hx)
theorem qnD {B Bg : Nat} {n : Nat} (W : World) (l : Nat) (o o' : Obj) (_ : n <= l) (h : W.heap[l]? = some o) (hc : o.isCells = false) (_ : o.isWalk = false) : qng B Bg W (W.putObj l o') := fun hf =>
 cell_kept hf (grownBy_putObj' W l o') (fun r e => by cases e; exact ⟨_, h, hc⟩)
theorem qnL (B Bg : Nat) (n l : Nat) (J Jx : List Ros.Sl -> World -> Prop)
 (hY : ∀ pre x W, J pre W -> pre.length < 8 -> YieldAt Fence.wide (n - 1) Tryz.prog l (qkA B x) W fun e W' =>
  (e = .returned (.bool true) /\ J (pre ++ [x]) W' /\ qng B Bg W W') \/ (e = .returned (.bool false) /\ Jx (pre ++ [x]) W'))
 (W : World) (hF : qdi B Bg W) (h0 : J [] W) :
 CallsIn Fence.wide n Tryz.prog 133 #[.func (.yield l) #[] #[], .pointer (some ⟨Bg, 0, none⟩)] W fun e W' => (∃ v, e = .returned v) /\
  ((∃ ys, ys = Ros.all8 /\ J ys W') \/ (∃ pre, (∃ rest, Ros.all8 = pre ++ rest) /\ Jx pre W')) := by
 refine callsIn_of_wp Tryz.func133 rfl trivial ?_ rfl
 simp only [Tryz.ntmps133, List.size_toArray, List.length_cons, List.length_nil, Nat.reduceAdd, Nat.reduceSub, Array.replicate_succ, Array.replicate_zero, List.push_toArray, List.append_toArray, List.nil_append, List.cons_append]
 gi_wp2
 gi_loopw [4] (fun p wr => ∃ (i : Nat) (pre : List Ros.Sl), i <= 8 /\ p = .int .i64 i /\ Ros.all8 = pre ++ Ros.slots (8 - i) i /\ qdi B Bg wr /\ J pre wr)
  (fun p _ => 8 - (intOf p).toNat)
 case atStart =>
  exact ⟨0, [], by omega, rfl, rfl, hF, h0⟩
 case round =>
  obtain ⟨i, pre, hi, rfl, hx, hf, hJs⟩ := hrel
  by_cases hlt : i < 8
  · have hi8 : (i : Int) < 8 := by omega
    have f0 : wr.cell? ⟨Bg, 0, none⟩ = some (.pointer (some ⟨B, 0, none⟩)) := hf
    rw [show 8 - i = (8 - (i + 1)) + 1 by omega, Ros.qnB hlt] at hx
    have hlen : pre.length < 8 := by
     have := Ros.qjb 8 0; rw [show Ros.slots 8 0 = Ros.all8 from rfl, hx] at this; simp at this; omega
    obtain ⟨fn, tmps, assign, body, hy, hR⟩ := hY pre ⟨i, hlt⟩ wr hJs hlen
    dsimp only [qkA] at hy
    have HX := qh hx
    have HF := qh hf
    clear hx hf hJs hY
    gi_wp2
    refine ⟨fun h => (by cases h), hR.mono ?_⟩
    rintro e W3 (⟨rfl, hJ3, hk3⟩ | ⟨rfl, hJx3⟩)
    · gi_wp2
      go_roundw
      case rel => exact ⟨i + 1, pre ++ [⟨i, hlt⟩], by omega, by go_num, by rw [HX.out]; simp, hk3 HF.out, hJ3⟩
      case measure => simp [intOf]; omega
    · gi_wp2
      refine bodyPost_ret (results_none rfl _ _ _) rfl ?_
      exact ⟨⟨_, rfl⟩, .inr ⟨pre ++ [⟨i, hlt⟩], ⟨Ros.slots (8 - (i + 1)) (i + 1), by rw [HX.out]; simp⟩, hJx3⟩⟩
  · have hi8 : ¬ (i : Int) < 8 := by omega
    have hie : i = 8 := by omega
    subst hie
    have HX := qh (show Ros.all8 = pre by rw [hx]; simp [Ros.slots])
    clear hx
    gi_wp2
    go_end0
    have e := HX.out
    first
     | exact ⟨⟨_, rfl⟩, .inl ⟨pre, e.symm, hJs⟩⟩
     | exact ⟨⟨_, rfl⟩, .inl (by rw [e]; exact hJs)⟩
theorem qfC (B Bg : Nat) (n : Nat) (w : World) (hF : qdi B Bg w) :
 SeqStopsK Fence.wide n Tryz.prog 133 #[.pointer (some ⟨Bg, 0, none⟩)] (qkA B) (qng B Bg) (fun xs => xs = Ros.all8) (fun pre => ∃ rest, Ros.all8 = pre ++ rest) 8 w :=
 fun l J Jx W hW _ _ hY h0 => qnL B Bg n l J Jx hY W (hF.below hW) h0
end Go.Proofs.YtmiopphcfdlneaaGreat
namespace Go
open Go.RowKit
structure Ext (B : Nat) (W : World) where
 w : World
 h : Below B W w
instance {B : Nat} {W : World} : Nonempty (Ext B W) := ⟨⟨W, Below.refl _ _⟩⟩
theorem Ext.cell {B : Nat} {W : World} (q : Ext B W) {b o : Nat} {v : Value} (hb : b < B) (hc : W.cell? ⟨b, o, none⟩ = some v) : q.w.cell? ⟨b, o, none⟩ = some v :=
 (q.h.cell (p := ⟨b, o, none⟩) hb).trans hc
theorem qby {P : Program} {id : Nat} {Q : Exit -> Act -> World -> Prop} {a : Act} {w : World} {l : List Oper} (B : Nat) (W : World) (hm : P.follows .mixedOrders = true) (hB : Region.lexB .any l.toArray = true) (hC : Below B W w)
 (h : wpQuiet P l.toArray (fun w' => ∃ q : Ext B W, w' = q.w) (fun a' => ∀ w', (∃ q : Ext B W, w' = q.w) -> Q .normal a' w') l a) : (Code.region id l.toArray true).wp P Q a w :=
 wp_region_quiet (C := fun w' => ∃ q : Ext B W, w' = q.w) hm hB ⟨⟨_, hC.drew⟩, rfl⟩ (by simpa using h)
theorem Calls.qcn {P : Program} {f : FuncId} {args : Array Value} {B : Nat} {W : World} {q : Ext B W} {v : Value} (hB : B <= W.heap.size)
 (h : Calls P f args q.w fun e w' => e = .returned v /\ Below q.w.heap.size q.w w') : Calls P f args q.w fun e w'' => e = .returned v /\ ∃ q' : Ext B W, w'' = q'.w :=
 h.mono fun _ w' ⟨he, hb⟩ => ⟨he, ⟨w', q.h.trans (hb.mono (Nat.le_trans hB q.h.size))⟩, rfl⟩
end Go
namespace Rt
open Go Go.RowKit
def tame (o : Oper) : Bool := match o.op with | .defer .. => false | _ => true
theorem qqc {n l : Nat} {P : Program} {row : String} {args : Array Value} {w : World} {R : Value -> World -> Prop} (h : Rows P row args w R) : RowsIn (Fence.wide.inRound l) n P row args w R :=
 fun c cs _ => let ⟨v, w', r, s⟩ := h c cs; ⟨v, w', r, stepsIn_wide.2 s⟩
theorem qqi {n l : Nat} {P : Program} {o : Oper} {a : Act} {w : World} {K : Act -> World -> Prop} {Q : Exit -> Act -> World -> Prop} (ht : tame o = true) (h : o.wp P a w K Q) : o.wpIn (Fence.wide.inRound l) n P a w K Q := by
 refine ⟨fun _ _ => trivial, ?_⟩
 rw [Oper.semAt_eq _ _ _ (fun c e => by unfold tame at ht; rw [e] at ht; cases ht)]
 unfold Oper.wp at h
 generalize (execOp a.eval o).run P w = r at *
 cases r with
 | ok x w' =>
  cases x <;> simp only [Oper.upon] at h <;> simp only [Oper.uponIn]
  case value => exact h
  case skip => exact h
  case defer => exact h
  case enter => exact ⟨fun e => (by cases e), (callsIn_wide.2 h).inRound l⟩
  case row => exact ⟨fun e => (by cases e), qqc h⟩
 | halt x w' => cases x <;> simp only [Oper.upon] at h <;> simp only [Oper.uponIn] <;> exact h
theorem qq1 {n l : Nat} {P : Program} {ops : Array Oper} {i : Nat} {a : Act} {w : World} {K : Act -> World -> Prop} {Q : Exit -> Act -> World -> Prop} (ht : ops.all tame = true) (hQ : ¬ LetsOut Q) (h : wpOp P ops Q i K a w) : wpOpIn (Fence.wide.inRound l) n P ops Q i K a w := by
 unfold wpOp at h
 unfold wpOpIn
 split
 · rename_i e; simp only [e] at h; exact h
 · rename_i o e
   simp only [e] at h
   have hto : tame o = true := Array.all_eq_true_iff_forall_mem.1 ht o (Array.mem_of_getElem? e)
   split
   · rename_i hw
     simp only [hw, if_true] at h
     rcases h with h | h
     · exact qqi hto h
     · exact absurd h.2 hQ
   · rename_i hw
     simp only [hw] at h
     exact ⟨fun _ _ => trivial, h⟩
theorem qoQ {n l : Nat} {P : Program} {ops : Array Oper} {Q : Exit -> Act -> World -> Prop} (ht : ops.all tame = true) (hQ : ¬ LetsOut Q) : ∀ (fuel : Nat) (listed : Array Bool) (a : Act) (w : World), wpAny P .any ops Q fuel listed a w -> wpAnyIn (Fence.wide.inRound l) n P .any ops Q fuel listed a w
 | 0, _, _, _, h => h
 | fuel + 1, listed, a, w, h => ⟨h.1, fun i hi => wpOpIn_mono (fun a' w' h' => qoQ ht hQ fuel _ a' w' h') (qq1 ht hQ (h.2 i hi))⟩
theorem qmr {n l id : Nat} {P : Program} {ops : List Oper} {a : Act} {w : World} {Q : Exit -> Act -> World -> Prop} (hm : P.follows .mixedOrders = true) (ht : ops.toArray.all tame = true) (st : List Nat) (hB : Ry.okB st ops = true) (hQ : ¬ LetsOut Q) (C0 D0 E : World -> Prop) (hC : C0 w.drew) (hCD : ∀ w, C0 w -> D0 w /\ E w)
 (h : Ry.qaR P st E (fun a' C' => ∀ w', C' w' -> Q .normal a' w') ops 0 a C0 D0) : (Code.region id ops.toArray true).wpIn (Fence.wide.inRound l) n P Q a w :=
 wpIn_region_any hm (qoQ ht hQ _ _ _ _ (Ry.qef hB C0 D0 hC hCD h))
theorem qdq {n l id : Nat} {P : Program} {ops : List Oper} {a : Act} {w : World} {Q : Exit -> Act -> World -> Prop} (B : Nat) (W : World) (hm : P.follows .mixedOrders = true) (ht : ops.toArray.all tame = true) (hB : Region.lexB .any ops.toArray = true) (hQ : ¬ LetsOut Q) (hC : Below B W w)
 (h : wpQuiet P ops.toArray (fun w' => ∃ q : Ext B W, w' = q.w) (fun a' => ∀ w', (∃ q : Ext B W, w' = q.w) -> Q .normal a' w') ops a) : (Code.region id ops.toArray true).wpIn (Fence.wide.inRound l) n P Q a w := by
 refine wpIn_region_any hm (qoQ ht hQ _ _ _ _ ?_)
 simp only [Region.lexB, Bool.and_eq_true] at hB
 refine wpAny_of_quiet (C := fun w' => ∃ q : Ext B W, w' = q.w) (Q := fun a' => ∀ w', (∃ q : Ext B W, w' = q.w) -> Q .normal a' w') (fun _ w' hw' h => h w' hw') _ _ _ _ ⟨⟨_, hC.drew⟩, rfl⟩ ?_
 have := wpAnyQ_lex (C := fun w' => ∃ q : Ext B W, w' = q.w) (md := .any) hB.1 ops.toArray.toList 0 (Array.replicate ops.toArray.size false) a (by simp) (by simpa using hB.2) (by simpa using h)
 simpa using this
end Rt
namespace Go.Proofs.YtmiopphcfdlneaaGreat
open Go.RowKit Go.Shelf
attribute [local go_sem] Oper.semAt_some
structure qfU (B Br Bh Bg : Nat) (w0 : World) (r : Ros.R) (pre : List Ros.Sl) (W : World) : Prop where
 ros : Box W B 36 (Ros.cells r)
 res : Box W Br 4 #[.bool false]
 has : Box W Bh 223 (Ros.qd9 (Ros.hasF r pre))
 sit : Box W Bg 150 #[.pointer (some ⟨B, 0, none⟩)]
 below : Below w0.heap.size w0 W
 good : Ros.Good r pre
theorem Below.turned {b : Nat} {w0 W W' : World} {row : Option Nat} (h : Below b w0 W) (hb : b <= w0.heap.size) (hg : W.grownBy W' row) (hr : ∀ r, row = some r -> b <= r) : Below b w0 W' :=
 h.grown hg (Nat.le_trans hb h.size) fun k e => hr k e
theorem qfU.turned {B Br Bh Bg : Nat} {w0 : World} {r : Ros.R} {pre : List Ros.Sl} {W W' : World} {row : Option Nat} (h : qfU B Br Bh Bg w0 r pre W) (hg : W.grownBy W' row) (hr : ∀ r, row = some r -> w0.heap.size <= r /\ ∃ o : Obj, W.heap[r]? = some o /\ o.isCells = false) : qfU B Br Bh Bg w0 r pre W' :=
 ⟨h.ros.turned hg fun r e => (hr r e).2, h.res.turned hg fun r e => (hr r e).2, h.has.turned hg fun r e => (hr r e).2, h.sit.turned hg fun r e => (hr r e).2, Below.turned h.below (Nat.le_refl _) hg fun r e => (hr r e).1, h.good⟩
theorem qfU.call {B Br Bh Bg : Nat} {w0 : World} {r : Ros.R} {pre : List Ros.Sl} {W W' : World} (h : qfU B Br Bh Bg w0 r pre W) (hb : Below W.heap.size W W') : qfU B Br Bh Bg w0 r pre W' :=
 ⟨h.ros.below hb h.ros.lt, h.res.below hb h.res.lt, h.has.below hb h.has.lt, h.sit.below hb h.sit.lt, h.below.trans (hb.mono h.below.size), h.good⟩
theorem qfj (r : Ros.R) (w : World) :
 Calls Tryz.prog 167 #[.agg (Ros.cells r)] w fun e w' => e = .returned (.bool (Ros.may r)) /\ Below w.heap.size w w' := by
 have B0 := Box.made w 36 (Ros.cells r)
 have hc : ∀ o j, ((w.alloc (.cells (Ros.cells r) 36)).alloc o).cell? ⟨w.heap.size, j, none⟩ = (Ros.cells r)[j]? := fun o j => (B0.alloc o).cell j
 have h0 := Ros.qa1 r
 by_cases hv1 : r.version < 0
 · skip
   have hno : Ros.may r = false := decide_eq_false fun h => by have := h.1; omega
   have d1 : decide (r.version < 0) = true := decide_eq_true hv1
   rw [hno]
   have hres := (Box.qaq (n := w.heap.size + 1) (w.alloc (.cells (Ros.cells r) 36)) 4 #[.bool false] (by simp)).put 0 (.bool false)
   have hcr := hres.cell 0
   clear B0 hno hres
   go_enter Tryz.func167, Tryz.ntmps167
   go_wp2
   refine bodyPost_ret (v := .bool false) (by simp [results, Tryz.f167, go_sem] <;> exact hcr) rfl ?_
   exact ⟨rfl, qap w _ _⟩
 by_cases hv2 : 1073741824 < r.version
 · skip
   have hno : Ros.may r = false := decide_eq_false fun h => by have := h.1; omega
   have d1 : decide (r.version < 0) = false := decide_eq_false hv1
   have d2 : decide (1073741824 < r.version) = true := decide_eq_true hv2
   rw [hno]
   have hres := (Box.qaq (n := w.heap.size + 1) (w.alloc (.cells (Ros.cells r) 36)) 4 #[.bool false] (by simp)).put 0 (.bool false)
   have hcr := hres.cell 0
   clear B0 hno hres
   go_enter Tryz.func167, Tryz.ntmps167
   go_wp2
   refine bodyPost_ret (v := .bool false) (by simp [results, Tryz.f167, go_sem] <;> exact hcr) rfl ?_
   exact ⟨rfl, qap w _ _⟩
 have hver : 0 <= r.version /\ r.version <= 1073741824 := by omega
 have d1 : decide (r.version < 0) = false := decide_eq_false hv1
 have d2 : decide (1073741824 < r.version) = false := decide_eq_false hv2
 have HV := qh hver
 have BB := qh B0
 clear hv1 hv2 hver
 refine (callsIn_wide (n := 10)).1 (callsIn_of_wp_marks Tryz.func167 rfl trivial (wpIn_wide.2 ?_) rfl)
 simp only [Tryz.ntmps167, List.size_toArray, List.length_cons, List.length_nil, Nat.reduceAdd, Nat.reduceSub, Array.replicate_succ, Array.replicate_zero, List.push_toArray, List.append_toArray, List.nil_append, List.cons_append]
 go_upto_block 0 with (go_at_call 97; ((with_reducible refine (qjh _ _).mono ?_); rintro e w3 ⟨rfl, rfl⟩))
 have M0 : qfU w.heap.size (w.heap.size + 1) (w.heap.size + 1 + 1) (w.heap.size + 1 + 1 + 1) w r [] ((((w.alloc (.cells (Ros.cells r) 36)).alloc (.cells #[.bool false] 4)).alloc (.cells (Ros.qd9 fun _ => false) 223)).alloc (.cells #[.pointer (some ⟨w.heap.size, 0, none⟩)] 150)) :=
  ⟨((BB.out.alloc _).alloc _).alloc _, ((Box.qaq _ _ _ (by simp)).alloc _).alloc _, (Box.qaq _ _ _ (by simp)).alloc _, Box.qaq _ _ _ (by simp), ((((Below.refl _ _).alloc (Nat.le_refl _) _).alloc (by simp) _).alloc (by simp <;> omega) _).alloc (by simp <;> omega) _, Ros.qpK r⟩
 simp only [Ros.qd9] at M0
 generalize hW0 : ((((w.alloc (.cells (Ros.cells r) 36)).alloc (.cells #[.bool false] 4)).alloc _).alloc _) = W0 at M0 ⊢
 have MM0 := qh M0
 have hs0 : qdi w.heap.size (w.heap.size + 1 + 1 + 1) W0 := M0.sit.cell 0
 clear hW0 M0 BB B0 hc h0 d1 d2
 refine (wpIn_wide (n := 10)).1 ?_
 refine wpIn_block ?_
 refine' wpIn_rangeFunc_ownF (n := 10) (w := W0) rfl (by omega) (gf := 133) (lb := #[.pointer (some ⟨w.heap.size + 1 + 1 + 1, 0, none⟩)]) rfl trivial (enters_of Tryz.func133 (by kernel_rfl) rfl)
  (qfC w.heap.size (w.heap.size + 1 + 1 + 1) _ W0 hs0) qnC (qnD (n := W0.heap.size)) (Below.refl _ _) (fun _ => rfl)
  (fun pre W => qfU w.heap.size (w.heap.size + 1) (w.heap.size + 1 + 1) (w.heap.size + 1 + 1 + 1) w r pre W)
  (fun c pre W => c = .ret /\ ¬ Ros.Good r pre /\ Box W (w.heap.size + 1) 4 #[.bool false] /\ Below w.heap.size w W)
  (fun pre W W' row h hgr hr => h.turned hgr (fun r e => ⟨Nat.le_trans MM0.out.below.size (hr r e).1, (hr r e).2⟩))
  (fun c pre W W' row h hgr hr => ⟨h.1, h.2.1, h.2.2.1.turned hgr (fun r e => (hr r e).2), Below.turned h.2.2.2 (Nat.le_refl _) hgr (fun r e => Nat.le_trans MM0.out.below.size (hr r e).1)⟩)
  MM0.out _ ?assign ?body ?done ?stop
 case assign =>
  intro l x W K hK
  gi_wp2
  exact hK
 case body =>
  rintro l pre ⟨k, hk⟩ W hM hlen
  have hk8 : (k : Int) < 8 := by omega
  have rc := hM.ros.cell
  have hl := hM.ros.lt
  have rp := Ros.qaQ r k hk
  have rg := Ros.qbs r k hk
  have cs := fun X => qh (qk5 (r.peer k) (r.gen k) X)
  have HM := qh hM
  clear hM hlen
  by_cases hok : Ros.qfc r k
  · have hok' : (0 <= r.gen k /\ r.gen k <= 60000) /\ (r.peer k = -1 \/ ((0 <= r.peer k /\ r.peer k < 12) /\ 0 < r.gen k)) := hok
    rw [decide_eq_true hok'] at cs
    have HOK := qh hok
    by_cases hp : r.peer k = -1
    · have HG : Hid (Ros.Good r (pre ++ [⟨k, hk⟩])) := qh (Ros.qeP.2 ⟨HM.out.good, hok, fun y hy => by rw [show r.peer (⟨k, hk⟩ : Ros.Sl).1 = -1 from hp]; omega⟩)
      have HF : Hid (Ros.hasF r (pre ++ [⟨k, hk⟩]) = Ros.hasF r pre) := qh (funext fun q => Ros.qqr (x := ⟨k, hk⟩) hp q)
      rw [hp] at rp cs
      generalize r.gen k = g at rg cs
      clear hok hok' hp
      gi_wp2_with (first | (gi_at_call 191; ((with_reducible refine (CallsIn.inRound l (callsIn_wide.2 (cs _).out)).mono ?_); rintro e v1 ⟨rfl, hb1⟩; have M1 := HM.out.call hb1; have s1 := M1.ros.cell; have s2 := M1.res.cell; have t2 := M1.res.free; have s3 := M1.has.cell; have t3 := M1.has.free; have l1 := M1.ros.lt; clear M1)) | (refine ⟨trivial, ?_⟩; gi_at_call 191; ((with_reducible refine (CallsIn.inRound l (callsIn_wide.2 (cs _).out)).mono ?_); rintro e v1 ⟨rfl, hb1⟩; have M1 := HM.out.call hb1; have s1 := M1.ros.cell; have s2 := M1.res.cell; have t2 := M1.res.free; have s3 := M1.has.cell; have t3 := M1.has.free; have l1 := M1.ros.lt; clear M1)))
      have M2 := HM.out.call hb1
      refine ⟨qbp hb1, fun h => h.below hb1, ?_⟩
      exact ⟨M2.ros, M2.res, by rw [HF.out]; exact M2.has, M2.sit, M2.below, HG.out⟩
    · obtain ⟨n, hn, hn12⟩ : ∃ n : Nat, r.peer k = n /\ n < 12 := ⟨(r.peer k).toNat, by omega, by omega⟩
      have hne : ((n : Int) == -1) = false := by simp
      have hni : (n : Int) < 12 := by omega
      have ha := Ros.qk8 (Ros.hasF r pre) n hn12
      cases hh : Ros.hasF r pre n
      · rw [hh] at ha
        have HG : Hid (Ros.Good r (pre ++ [⟨k, hk⟩])) := qh (Ros.qeP.2 ⟨HM.out.good, hok, fun y hy => by rw [show r.peer (⟨k, hk⟩ : Ros.Sl).1 = n from hn]; exact .inr (Ros.qlX.1 hh y hy)⟩)
        have HF : Hid (Ros.hasF r (pre ++ [⟨k, hk⟩]) = fun q => if q = n then true else Ros.hasF r pre q) := qh (funext fun q => Ros.qpJ (x := ⟨k, hk⟩) hn q)
        rw [hn] at rp cs
        generalize r.gen k = g at rg cs
        clear hok hok' hp hn hh
        gi_wp2_with (first | (gi_at_call 191; ((with_reducible refine (CallsIn.inRound l (callsIn_wide.2 (cs _).out)).mono ?_); rintro e v1 ⟨rfl, hb1⟩; have M1 := HM.out.call hb1; have s1 := M1.ros.cell; have s2 := M1.res.cell; have t2 := M1.res.free; have s3 := M1.has.cell; have t3 := M1.has.free; have l1 := M1.ros.lt; clear M1)) | (refine ⟨trivial, ?_⟩; gi_at_call 191; ((with_reducible refine (CallsIn.inRound l (callsIn_wide.2 (cs _).out)).mono ?_); rintro e v1 ⟨rfl, hb1⟩; have M1 := HM.out.call hb1; have s1 := M1.ros.cell; have s2 := M1.res.cell; have t2 := M1.res.free; have s3 := M1.has.cell; have t3 := M1.has.free; have l1 := M1.ros.lt; clear M1)))
        have M2 := HM.out.call hb1
        have hset := M2.has.put n (.bool true)
        rw [Ros.qjV _ n hn12, <- HF.out] at hset
        refine ⟨(qbp hb1).trans (KeepsOthers.setCell _ _ _), fun h => (World.cell?_of_block (heap_setCell_other _ _ _ _ (by show w.heap.size + 1 + 1 + 1 ≠ w.heap.size + 1 + 1; omega))).trans (h.below hb1), ?_⟩
        exact ⟨M2.ros.far (by show _ ≠ _; simp; omega) _, M2.res.far (by show _ ≠ _; simp) _, hset, M2.sit.far (by show _ ≠ _; simp) _, M2.below.setCell (by simp; omega) _, HG.out⟩
      · rw [hh] at ha
        have HG : Hid (¬ Ros.Good r (pre ++ [⟨k, hk⟩])) := qh fun h => by
         have h3 := (Ros.qeP.1 h).2.2
         have : Ros.hasF r pre n = false := Ros.qlX.2 fun y hy => by
          rcases h3 y hy with e | e
          · rw [e]; omega
          · rw [show r.peer (⟨k, hk⟩ : Ros.Sl).1 = n from hn] at e; exact e
         rw [this] at hh; cases hh
        rw [hn] at rp cs
        generalize r.gen k = g at rg cs
        clear hok hok' hp hn hh
        gi_wp2_with (first | (gi_at_call 191; ((with_reducible refine (CallsIn.inRound l (callsIn_wide.2 (cs _).out)).mono ?_); rintro e v1 ⟨rfl, hb1⟩; have M1 := HM.out.call hb1; have s1 := M1.ros.cell; have s2 := M1.res.cell; have t2 := M1.res.free; have s3 := M1.has.cell; have t3 := M1.has.free; have l1 := M1.ros.lt; clear M1)) | (refine ⟨trivial, ?_⟩; gi_at_call 191; ((with_reducible refine (CallsIn.inRound l (callsIn_wide.2 (cs _).out)).mono ?_); rintro e v1 ⟨rfl, hb1⟩; have M1 := HM.out.call hb1; have s1 := M1.ros.cell; have s2 := M1.res.cell; have t2 := M1.res.free; have s3 := M1.has.cell; have t3 := M1.has.free; have l1 := M1.ros.lt; clear M1)))
        have M2 := HM.out.call hb1
        exact ⟨(qbp hb1).trans (KeepsOthers.setCell _ _ _), rfl, HG.out, M2.res.put 0 _, M2.below.setCell (by simp) _⟩
  · have hok' : ¬ ((0 <= r.gen k /\ r.gen k <= 60000) /\ (r.peer k = -1 \/ ((0 <= r.peer k /\ r.peer k < 12) /\ 0 < r.gen k))) := hok
    rw [decide_eq_false hok'] at cs
    have HG : Hid (¬ Ros.Good r (pre ++ [⟨k, hk⟩])) := qh fun h => hok (Ros.qeP.1 h).2.1
    generalize r.gen k = g at rg cs
    generalize r.peer k = p at rp cs
    clear hok hok'
    gi_wp2_with (first | (gi_at_call 191; ((with_reducible refine (CallsIn.inRound l (callsIn_wide.2 (cs _).out)).mono ?_); rintro e v1 ⟨rfl, hb1⟩; have M1 := HM.out.call hb1; have s1 := M1.ros.cell; have s2 := M1.res.cell; have t2 := M1.res.free; have s3 := M1.has.cell; have t3 := M1.has.free; have l1 := M1.ros.lt; clear M1)) | (refine ⟨trivial, ?_⟩; gi_at_call 191; ((with_reducible refine (CallsIn.inRound l (callsIn_wide.2 (cs _).out)).mono ?_); rintro e v1 ⟨rfl, hb1⟩; have M1 := HM.out.call hb1; have s1 := M1.ros.cell; have s2 := M1.res.cell; have t2 := M1.res.free; have s3 := M1.has.cell; have t3 := M1.has.free; have l1 := M1.ros.lt; clear M1)))
    have M2 := HM.out.call hb1
    exact ⟨(qbp hb1).trans (KeepsOthers.setCell _ _ _), rfl, HG.out, M2.res.put 0 _, M2.below.setCell (by simp) _⟩
 case done =>
  rintro D xs W hD rfl hM hK
  have hres := hM.res.put 0 (.bool true)
  have hK3 := qer (KeepsOthers.setCell W ⟨w.heap.size + 1, 0, none⟩ (.bool true)) hK
  have hDw : w.heap.size <= D := Nat.le_trans MM0.out.below.size hD
  have hT := hres.turned (grownBy_putObj' _ D (.deferred none)) (fun r e => by cases e; exact ⟨_, hK3, rfl⟩)
  have hT2 := qh (Below.turned (hM.below.setCell (p := ⟨w.heap.size + 1, 0, none⟩) (by simp) (.bool true)) (Nat.le_refl _) (grownBy_putObj' _ D (.deferred none)) (fun r e => by cases e; exact hDw))
  have hyes : Hid (Ros.may r = true) := qh (decide_eq_true ⟨HV.out, hM.good⟩)
  have HK3 := qh hK3
  have hc5 : ((W.setCell ⟨w.heap.size + 1, 0, none⟩ (.bool true)).putObj D (.deferred none)).cell? ⟨w.heap.size + 1, 0, none⟩ = some (.bool true) := hT.cell 0
  have u4 := hM.res.cell
  have v4 := hM.res.free
  clear hM hres hK3 hT hK
  go_wp2
  refine ⟨by simp, .inl ⟨_, _, rfl, run_takeDeferred HK3.out, ?_⟩⟩
  refine ⟨.bool true, ?_, by rw [hyes.out], hT2.out⟩
  simp [results, Tryz.f167, go_sem, hc5]
 case stop =>
  rintro D c' pre W hD ⟨rest, hpre⟩ ⟨rfl, h2, h3, h4⟩ hK
  have hno : Hid (Ros.may r = false) := qh (decide_eq_false fun h => h2 (Ros.qmP (m := rest) (by rw [<- hpre]; exact h.2)))
  have hDw : w.heap.size <= D := Nat.le_trans MM0.out.below.size hD
  have hT := h3.turned (grownBy_putObj' _ D (.deferred none)) (fun r e => by cases e; exact ⟨_, hK, rfl⟩)
  have hT2 := qh (Below.turned h4 (Nat.le_refl _) (grownBy_putObj' _ D (.deferred none)) (fun r e => by cases e; exact hDw))
  have hc5 : (W.putObj D (.deferred none)).cell? ⟨w.heap.size + 1, 0, none⟩ = some (.bool false) := hT.cell 0
  have HK3 := qh hK
  clear h2 h3 h4 hK hpre hT
  refine wpIn_ret ?_
  refine ⟨by simp, .inl ⟨_, _, rfl, run_takeDeferred HK3.out, ?_⟩⟩
  refine ⟨.bool false, ?_, by rw [hno.out], hT2.out⟩
  simp [results, Tryz.f167, go_sem, hc5]
end Go.Proofs.YtmiopphcfdlneaaGreat
namespace Go.Proofs.YtmiopphcfdlneaaGreat
open Go.RowKit Go.Shelf
section
variable {P : Program} {ops : Array Oper} {rest : List Oper} {o : Oper} {a : Act} {w : World} {Q : Exit -> Act -> World -> Prop} {dst : Option Tmp} {p v : Value} {t : TypeId} {d : TypeDesc} {x y : Operand}
def qas (P : Program) (ops : Array Oper) (Q : Exit -> Act -> World -> Prop) (rest : List Oper) (dst : Option Tmp) (p : Value) (t : TypeId) (a : Act) (w : World) : Prop :=
 ∃ (B : Nat) (cs : Array Value), p = .pointer (some ⟨B, 0, none⟩) /\ Box w B t cs /\ (P.info? t).map (·.size) = some cs.size /\ wpList P ops Q rest (a.put dst (.agg cs)) w
theorem qas.mk {B : Nat} {cs : Array Value} (hp : p = .pointer (some ⟨B, 0, none⟩)) (hB : Box w B t cs) (hi : (P.info? t).map (·.size) = some cs.size) (h : wpList P ops Q rest (a.put dst (.agg cs)) w) : qas P ops Q rest dst p t a w := ⟨B, cs, hp, hB, hi, h⟩
theorem qd4 (hgd : o.guard = none) (ho : o.op = .load t x) (hu : P.underlying t = some d) (hd : d.isRow = true) (h : qas P ops Q rest o.dst (a.eval x) t a w) : wpList P ops Q (o :: rest) a w := by
 obtain ⟨B, cs, hx, hB, hi, h⟩ := h
 exact qbO hgd ho hx hB hu hd hi h
theorem qmf (hw : Region.wanted o (yielded ops a.tmps) = true) (ho : o.op = .load t x) (hu : P.underlying t = some d) (hd : d.isRow = true) (h : qas P ops Q rest o.dst (a.eval x) t a w) : wpList P ops Q (o :: rest) a w := by
 obtain ⟨B, ⟨l⟩, hx, hB, hi, h⟩ := h
 exact qcb hw ho (f := 0) hx hB l (fun j v hv => by rw [Nat.zero_add]; simpa using hv) hu hd (by simpa using hi) h
def qa6 (P : Program) (ops : Array Oper) (Q : Exit -> Act -> World -> Prop) (rest : List Oper) (dst : Option Tmp) (p v : Value) (t : TypeId) (a : Act) (w : World) : Prop :=
 ∃ (B : Nat) (cs old : Array Value), p = .pointer (some ⟨B, 0, none⟩) /\ v = .agg cs /\ Box w B t old /\ (P.info? t).map (·.size) = some cs.size /\ old.size = cs.size /\ cs.all (·.oneCell') = true /\ wpList P ops Q rest (a.put dst undef) (w.setRow B cs)
theorem qa6.mk {B : Nat} {cs old : Array Value} (hp : p = .pointer (some ⟨B, 0, none⟩)) (hv : v = .agg cs) (hB : Box w B t old) (hi : (P.info? t).map (·.size) = some cs.size) (hs : old.size = cs.size) (h1 : cs.all (·.oneCell') = true) (h : wpList P ops Q rest (a.put dst undef) (w.setRow B cs)) : qa6 P ops Q rest dst p v t a w := ⟨B, cs, old, hp, hv, hB, hi, hs, h1, h⟩
theorem qnO (hgd : o.guard = none) (ho : o.op = .store t x y) (h : qa6 P ops Q rest o.dst (a.eval x) (a.eval y) t a w) : wpList P ops Q (o :: rest) a w := by
 obtain ⟨B, cs, old, hx, hy, hB, hi, hs, h1, h⟩ := h
 exact qbw hgd ho hx hy hB hi hs h1 h
end
theorem qah : (Tryz.prog.info? 36).map (·.size) = some 17 := by kernel_rfl
theorem qbr (r : Ros.R) : (Ros.cells r).all (·.oneCell') = true := by
 refine Array.all_eq_true_iff_forall_mem.2 fun v hv => ?_
 obtain ⟨n, rfl⟩ := Ros.qh5 r v (by simpa using hv)
 rfl
def qau : Ros.R := ⟨0, fun _ => 0, fun _ => 0⟩
theorem qpe : (Tryz.prog.info? 36).map (·.zero) = some (some (.agg (Ros.cells qau))) := by kernel_rfl
section
variable {ops : Array Oper} {rest : List Oper} {o : Oper} {a : Act} {w : World} {Q : Exit -> Act -> World -> Prop}
theorem qaU (hgd : o.guard = none) (ho : o.op = .alloc 36)
 (h : wpList Tryz.prog ops Q rest (a.put o.dst (.pointer (some ⟨w.heap.size, 0, none⟩))) (w.alloc (.cells (Ros.cells qau) 36))) : wpList Tryz.prog ops Q (o :: rest) a w :=
 qbB hgd ho qpe rfl h
theorem qaZ {x y : Operand} {v : World} {old : Array Value} {r : Ros.R} (hgd : o.guard = none) (ho : o.op = .store 36 x y) (hx : a.eval x = .pointer (some ⟨v.heap.size, 0, none⟩)) (hy : a.eval y = .agg (Ros.cells r))
 (hold : old.size = 17) (h : wpList Tryz.prog ops Q rest (a.put o.dst undef) (v.alloc (.cells (Ros.cells r) 36))) : wpList Tryz.prog ops Q (o :: rest) a (v.alloc (.cells old 36)) :=
 qbv hgd ho hx hy rfl rfl qah hold (qbr _) h
end
theorem qav {ops : Array Oper} {rest : List Oper} {o : Oper} {a : Act} {w : World} {Q : Exit -> Act -> World -> Prop} {x : Operand} (hgd : o.guard = none) (ho : o.op = .load 36 x) (h : qas Tryz.prog ops Q rest o.dst (a.eval x) 36 a w) : wpList Tryz.prog ops Q (o :: rest) a w :=
 qd4 hgd ho Tryz.underlying36 rfl h
theorem qb6 {ops : Array Oper} {rest : List Oper} {o : Oper} {a : Act} {w : World} {Q : Exit -> Act -> World -> Prop} {x : Operand} (hw : Region.wanted o (yielded ops a.tmps) = true) (ho : o.op = .load 36 x) (h : qas Tryz.prog ops Q rest o.dst (a.eval x) 36 a w) : wpList Tryz.prog ops Q (o :: rest) a w :=
 qmf hw ho Tryz.underlying36 rfl h
theorem qa5 {ops : Array Oper} {rest : List Oper} {o : Oper} {a : Act} {w : World} {Q : Exit -> Act -> World -> Prop} {x y : Operand} (hgd : o.guard = none) (ho : o.op = .store 36 x y) (h : qa6 Tryz.prog ops Q rest o.dst (a.eval x) (a.eval y) 36 a w) : wpList Tryz.prog ops Q (o :: rest) a w :=
 qnO hgd ho h
structure Sit (B Bg : Nat) (w0 : World) (r : Ros.R) (W : World) : Prop where
 ros : Box W B 36 (Ros.cells r)
 sit : Box W Bg 150 #[.pointer (some ⟨B, 0, none⟩)]
 below : Below w0.heap.size w0 W
section
variable {B Bg : Nat} {w0 W W' : World} {r : Ros.R}
theorem Sit.turned {row : Option Nat} (h : Sit B Bg w0 r W) (hg : W.grownBy W' row) (hr : ∀ r, row = some r -> w0.heap.size <= r /\ ∃ o : Obj, W.heap[r]? = some o /\ o.isCells = false) : Sit B Bg w0 r W' :=
 ⟨h.ros.turned hg fun r e => (hr r e).2, h.sit.turned hg fun r e => (hr r e).2, Below.turned h.below (Nat.le_refl _) hg fun r e => (hr r e).1⟩
theorem Sit.call (h : Sit B Bg w0 r W) (hb : Below W.heap.size W W') : Sit B Bg w0 r W' :=
 ⟨h.ros.below hb h.ros.lt, h.sit.below hb h.sit.lt, h.below.trans (hb.mono h.below.size)⟩
end
open Go.RowKit
theorem qd3 : (Tryz.prog.info? 33).map (·.size) = some 2 := by kernel_rfl
theorem qej (r : Ros.R) (i : Nat) (hi : i < 8) : ((Ros.qaP r).drop (i * 2)).take 2 = Ros.pair r i := by
 match i, hi with
 | 0, _ | 1, _ | 2, _ | 3, _ | 4, _ | 5, _ | 6, _ | 7, _ => rfl
theorem qnM (r : Ros.R) (i : Nat) (hi : i < 8) (w : World) : (part 33 (Ros.qaP r).toArray (i * 2)).run Tryz.prog w = .ok (.agg (Ros.pair r i).toArray) w := by
 have h := qej r i hi
 cases hq : Tryz.prog.info? 33 with
 | none => have := qd3; simp [hq] at this
 | some j =>
  have hs : j.size = 2 := by have := qd3; simpa [hq] using this
  simp [part, isAgg, sizeOf, typeInfo, hq, hs, run_underlying (Tryz.underlying33) w, h]
def Im.Ok (g : Gm.G) (r : Ros.R) : Prop := Gm.ok g /\ Ros.Ok r /\ ∀ k, k < 8 -> (g.ship k).on = decide (0 <= r.peer k)
theorem qax : (Tryz.prog.info? 38).map (·.size) = some 76 := by kernel_rfl
theorem qmd : (Tryz.prog.info? 34).map (·.size) = some 16 := by kernel_rfl
section
variable {ops : Array Oper} {rest : List Oper} {o : Oper} {a : Act} {w : World} {Q : Exit -> Act -> World -> Prop} {x : Operand} {dst : Option Tmp} {p : Value}
def qaC (ops : Array Oper) (Q : Exit -> Act -> World -> Prop) (rest : List Oper) (dst : Option Tmp) (p : Value) (off : Nat) (pick : Gm.G -> Value -> Ros.R -> Array Value) (a : Act) (w : World) : Prop :=
 ∃ (B : Nat) (g : Gm.G) (s : Value) (r : Ros.R), p = .pointer (some ⟨B, off, none⟩) /\ Box w B 38 (Im.cells g s r) /\ wpList Tryz.prog ops Q rest (a.put dst (.agg (pick g s r))) w
theorem qaC.mk {off : Nat} {pick : Gm.G -> Value -> Ros.R -> Array Value} {B : Nat} {g : Gm.G} {s : Value} {r : Ros.R} (hp : p = .pointer (some ⟨B, off, none⟩)) (hB : Box w B 38 (Im.cells g s r)) (h : wpList Tryz.prog ops Q rest (a.put dst (.agg (pick g s r))) w) : qaC ops Q rest dst p off pick a w := ⟨B, g, s, r, hp, hB, h⟩
theorem qbb (hgd : o.guard = none) (ho : o.op = .load 31 x) (h : qaC ops Q rest o.dst (a.eval x) 0 (fun g s _ => Gm.cells g s) a w) : wpList Tryz.prog ops Q (o :: rest) a w := by
 obtain ⟨B, g, s, r, hx, hB, h⟩ := h
 refine qbH hgd ho hx hB (Gm.cells g s).toList (fun j v hv => ?_) Tryz.underlying31 rfl qbh h
 have hj : j < 59 := (List.getElem?_eq_some_iff.1 hv).1
 rw [Nat.zero_add, Im.qdh _ _ _ j hj]
 simpa using hv
theorem qbV (hw : Region.wanted o (yielded ops a.tmps) = true) (ho : o.op = .load 36 x) (h : qaC ops Q rest o.dst (a.eval x) 59 (fun _ _ r => Ros.cells r) a w) : wpList Tryz.prog ops Q (o :: rest) a w := by
 obtain ⟨B, g, s, r, hx, hB, h⟩ := h
 refine qcb hw ho hx hB (Ros.cells r).toList (fun j v hv => ?_) Tryz.underlying36 rfl qah h
 rw [Im.qez]
 simpa using hv
theorem qdB (hgd : o.guard = none) (ho : o.op = .load 34 x) (h : qaC ops Q rest o.dst (a.eval x) 60 (fun _ _ r => (Ros.qaP r).toArray) a w) : wpList Tryz.prog ops Q (o :: rest) a w := by
 obtain ⟨B, g, s, r, hx, hB, h⟩ := h
 refine qbH hgd ho hx hB (Ros.qaP r) (fun j v hv => ?_) Tryz.underlying34 rfl qmd h
 rw [show 60 + j = 59 + (1 + j) by omega, Im.qez]
 rw [<- hv]
 simp [Ros.cells, Nat.add_comm]
end
theorem qd2 (r : Ros.R) (k : Nat) (hk : k < 8) (W : World) : (Instr.index 34 (.agg (Ros.qaP r).toArray) (.int .i64 (k : Int))).run Tryz.prog W = .ok (.agg #[.int .i64 (r.peer k), .int .i64 (r.gen k)]) W := by
 have h := qnM r k hk W
 rw [show (Ros.pair r k).toArray = #[.int .i64 (r.peer k), .int .i64 (r.gen k)] from rfl] at h
 have hk8 : (k : Int) < 8 := by omega
 have hc : Tryz.prog.cellsOf 33 = 2 := by kernel_rfl
 cases hq : Tryz.prog.info? 33 with
 | none => have := qd3; simp [hq] at this
 | some i =>
  have hi : i.size = 2 := by have := qd3; simpa [hq] using this
  simp [Instr.index, run_underlying (Tryz.underlying34) W, h, hk8, sizeOf, typeInfo, hq, hi, go_sem]
  rw [if_pos hk, qej r k hk]
  rfl
theorem qjS (g : Gm.G) (r : Ros.R) (A : Option Addr) (n c : Nat) (w : World) (hty : Gm.ty g) (hn : n = g.qaa.length) (hn63 : n <= maxLen) (hr : Lies w w.heap.size 6 A n (Gm.qad g.qaa)) :
 Calls Tryz.prog 142 #[.agg (Im.cells g (.slice A n c) r)] w fun e w' => (∃ v, e = .returned (.bool v) /\ (v = true ↔ Im.Ok g r)) /\ Below w.heap.size w w' := by
 have P0 := qh (Box.made w 38 (Im.cells g (.slice A n c) r))
 have K0 := qh (qac w (.cells (Im.cells g (.slice A n c) r) 38))
 have hr0 := (hr.below K0.out).wider K0.out.size
 by_cases hg : Gm.ok g
 · have cg := fun X hX => qh (qgW g A n c X hg hn hX)
   have cr := fun X => qh (qfj r X)
   by_cases hok : Ros.Ok r
   · rw [show Ros.may r = true from decide_eq_true hok] at cr
     have HG := qh hg
     have HR := qh hok
     have hq := qh hr0
     clear hr hr0 hn hty hg hok
     go_enter Tryz.func142, Tryz.ntmps142
     go_wp2_with (first | ((with_reducible refine qbb rfl rfl ?_); apply qaC.mk rfl; (focus (with_reducible exact P0.out)); dsimp only) | ((with_reducible refine qbV ?_ rfl ?_); (focus first | rfl | kernel_rfl | simp [Region.wanted, yielded]); apply qaC.mk rfl; (focus (with_reducible exact P1.out)); dsimp only) | ((with_reducible refine qdB rfl rfl ?_); apply qaC.mk rfl; (focus (with_reducible exact P2.out)); dsimp only) | (go_at_call 124; ((with_reducible refine ((cg _ hq.out).out).mono ?_); rintro e w1 ⟨rfl, hb⟩; have P1 := qh (P0.out.below hb P0.out.lt); have K1 := qh (K0.out.trans (hb.mono K0.out.size)); clear hb)) | (go_at_call 167; ((with_reducible refine ((cr _).out).mono ?_); rintro e w2 ⟨rfl, hb⟩; have P2 := qh (P1.out.below hb P1.out.lt); have K2 := qh (K1.out.trans (hb.mono K1.out.size)); clear hb)))
     go_loopw [18] (fun i wr => ∃ k : Nat, k <= 8 /\ i = .int .i64 k /\ Box wr w.heap.size 38 (Im.cells g (.slice A n c) r) /\ Below w.heap.size w wr /\ ∀ j, j < k -> (g.ship j).on = decide (0 <= r.peer j)) (fun i _ => 8 - (intOf i).toNat)
     case atStart => exact ⟨0, by omega, rfl, P2.out, K2.out, fun j hj => absurd hj (Nat.not_lt_zero j)⟩
     case round =>
      obtain ⟨k, hk, rfl, hB, hb, hall⟩ := hrel
      clear P0 K0 P1 K1 P2 K2 hq
      by_cases hlt : k < 8
      · have hk8 : (k : Int) < 8 := by omega
        have hpart := qd2 r k hlt
        have e0 := (hB.cell (2 + k * 7)).trans (Im.qae g _ r k 0 hlt (by omega))
        simp only [Gm.Ship.cells, List.getElem?_cons_zero] at e0
        have hcell : ∀ o, (wr.alloc o).cell? ⟨w.heap.size, 2 + k * 7, none⟩ = some (.bool (g.ship k).on) := fun o => ((hB.alloc o).cell _).trans ((Im.qae g _ r k 0 hlt (by omega)).trans rfl)
        obtain ⟨on, hon⟩ : ∃ on, on = (g.ship k).on := ⟨_, rfl⟩
        obtain ⟨pk, hpk⟩ : ∃ pk, pk = r.peer k := ⟨_, rfl⟩
        obtain ⟨gk, hgk⟩ : ∃ gk, gk = r.gen k := ⟨_, rfl⟩
        rw [<- hon] at e0 hcell
        rw [<- hpk, <- hgk] at hpart
        have HON := qh hon
        have HPK := qh hpk
        have HALL := qh hall
        have HB := qh hB
        have HBB := qh hb
        clear hon hpk hgk hall hB hb
        by_cases hm : on = decide (0 <= pk)
        · have hnew := qh (show ∀ j, j < k + 1 -> (g.ship j).on = decide (0 <= r.peer j) from fun j hj => by
           by_cases e : j = k
           · rw [e, <- HON.out, <- HPK.out]; exact hm
           · exact HALL.out j (by omega))
          cases hd : decide (0 <= pk)
          · rw [hd] at hm
            subst hm
            go_upto_region 6 with fail
            go_quiet (fail)
            go_wp2
            go_roundw
            case rel => exact ⟨k + 1, by omega, by go_num, (HB.out.alloc _).draws _, qaA (HBB.out.alloc HBB.out.size _) _, hnew.out⟩
            case measure => simp [intOf]; omega
          · rw [hd] at hm
            subst hm
            go_upto_region 6 with fail
            go_quiet (fail)
            go_wp2
            go_roundw
            case rel => exact ⟨k + 1, by omega, by go_num, (HB.out.alloc _).draws _, qaA (HBB.out.alloc HBB.out.size _) _, hnew.out⟩
            case measure => simp [intOf]; omega
        · have hno := qh (show ¬ Im.Ok g r from fun h => hm (by rw [HON.out, HPK.out]; exact h.2.2 k hlt))
          cases hd : decide (0 <= pk)
          · obtain rfl : on = true := by
             cases on
             · exact absurd hd.symm hm
             · rfl
            clear hm
            go_upto_region 6 with fail
            go_quiet (fail)
            go_wp2
            go_ret
            exact ⟨by first | exact ⟨false, rfl, by simp; exact hno.out⟩ | exact .inl ⟨rfl, hno.out⟩, qaA (HBB.out.alloc HBB.out.size _) _⟩
          · obtain rfl : on = false := by
             cases on
             · rfl
             · exact absurd hd.symm hm
            clear hm
            go_upto_region 6 with fail
            go_quiet (fail)
            go_wp2
            go_ret
            exact ⟨by first | exact ⟨false, rfl, by simp; exact hno.out⟩ | exact .inl ⟨rfl, hno.out⟩, qaA (HBB.out.alloc HBB.out.size _) _⟩
      · have hk8 : ¬ (k : Int) < 8 := by omega
        have hyes := qh (show Im.Ok g r from ⟨HG.out, HR.out, fun j hj => hall j (by omega)⟩)
        have HBB := qh hb
        clear hall hB hb
        go_wp2
        go_ret
        exact ⟨by first | exact ⟨true, rfl, by simp; exact hyes.out⟩ | exact .inr ⟨rfl, hyes.out⟩, HBB.out⟩
   · rw [show Ros.may r = false from decide_eq_false hok] at cr
     have hno := qh (show ¬ Im.Ok g r from fun h => hok h.2.1)
     have hq := qh hr0
     clear hr hr0 hn hty hg hok
     go_enter Tryz.func142, Tryz.ntmps142
     go_wp2_with (first | ((with_reducible refine qbb rfl rfl ?_); apply qaC.mk rfl; (focus (with_reducible exact P0.out)); dsimp only) | ((with_reducible refine qbV ?_ rfl ?_); (focus first | rfl | kernel_rfl | simp [Region.wanted, yielded]); apply qaC.mk rfl; (focus (with_reducible exact P1.out)); dsimp only) | ((with_reducible refine qdB rfl rfl ?_); apply qaC.mk rfl; (focus (with_reducible exact P2.out)); dsimp only) | (go_at_call 124; ((with_reducible refine ((cg _ hq.out).out).mono ?_); rintro e w1 ⟨rfl, hb⟩; have P1 := qh (P0.out.below hb P0.out.lt); have K1 := qh (K0.out.trans (hb.mono K0.out.size)); clear hb)) | (go_at_call 167; ((with_reducible refine ((cr _).out).mono ?_); rintro e w2 ⟨rfl, hb⟩; have P2 := qh (P1.out.below hb P1.out.lt); have K2 := qh (K1.out.trans (hb.mono K1.out.size)); clear hb)))
     go_ret
     exact ⟨by first | exact ⟨false, rfl, by simp; exact hno.out⟩ | exact .inl ⟨rfl, hno.out⟩, K2.out⟩
 · have cg := fun X hX => qh (qqm g A n c X hg hty hn hn63 hX)
   have hno := qh (show ¬ Im.Ok g r from fun h => hg h.1)
   have hq := qh hr0
   clear hr hr0 hn hty hg
   go_enter Tryz.func142, Tryz.ntmps142
   go_wp2_with (first | ((with_reducible refine qbb rfl rfl ?_); apply qaC.mk rfl; (focus (with_reducible exact P0.out)); dsimp only) | ((with_reducible refine qbV ?_ rfl ?_); (focus first | rfl | kernel_rfl | simp [Region.wanted, yielded]); apply qaC.mk rfl; (focus (with_reducible exact P1.out)); dsimp only) | ((with_reducible refine qdB rfl rfl ?_); apply qaC.mk rfl; (focus (with_reducible exact P2.out)); dsimp only) | (go_at_call 124; ((with_reducible refine ((cg _ hq.out).out).mono ?_); rintro e w1 ⟨rfl, hb⟩; have P1 := qh (P0.out.below hb P0.out.lt); have K1 := qh (K0.out.trans (hb.mono K0.out.size)); clear hb)) | (go_at_call 167; ((with_reducible refine ((cr _).out).mono ?_); rintro e w2 ⟨rfl, hb⟩; have P2 := qh (P1.out.below hb P1.out.lt); have K2 := qh (K1.out.trans (hb.mono K1.out.size)); clear hb)))
   go_ret
   exact ⟨by first | exact ⟨false, rfl, by simp; exact hno.out⟩ | exact .inl ⟨rfl, hno.out⟩, K1.out⟩
theorem qbE {w : World} {base base' : Nat} {e : TypeId} {size n : Nat} {v : Value} {xs : List Value} (h : w.ownsRow base e size v n xs) (hb : base' <= base) : w.ownsRow base' e size v n xs := by
 obtain ⟨hl, h' | ⟨g, cap, cur, hv, hbg, hr⟩⟩ := h
 · exact ⟨hl, .inl h'⟩
 · exact ⟨hl, .inr ⟨g, cap, cur, hv, Nat.le_trans hb hbg, hr⟩⟩
theorem qhf (l : List Gm.Shot) (A : Option Addr) (n c : Nat) (w : World) (hn : n = l.length) (hn32 : n <= 60) (hr : Lies w w.heap.size 6 A n (Gm.qad l)) :
 Calls Tryz.prog 103 #[.slice A n c] w fun e w' => ∃ A' c', e = .returned (.slice A' n c') /\ w'.ownsRow w.heap.size 80 6 (.slice A' n c') n (Gm.qad l) /\ Below w.heap.size w w' := by
 have hmf : ∀ (fn : Fn) (first cap : Array Value) (w : World), (Instr.makeFunc fn first cap).run Tryz.prog w = .ok (.func fn first cap) w := fun _ _ _ _ => rfl
 obtain ⟨i0, hi0, hz0, hz1, hz2⟩ := info_parts qdo
 have hI := qh hi0
 have hZ := qh hz0
 have hS := qh hz1
 have hY := qh hz2
 have hL := qh hr
 have hN := qh hn
 clear hn hi0 hz0 hz1 hz2 hr
 cases A with
 | none =>
  have hn0 : n = 0 := by
   by_cases h : n = 0
   · exact h
   · obtain ⟨ad, he, _⟩ := hL.out.start h; cases he
  subst hn0
  have hnil : ∀ W : World, (binOp .eql 29 (.slice none 0 c) (.slice none 0 0)).run Tryz.prog W = .ok (.bool true) W := fun W => Lib.run_eql_slice_nil W _ _ none 0 c 0 0 Tryz.underlying29
  go_enter Tryz.func103, Tryz.ntmps103
  go_wp2
  go_ret
  refine ⟨none, 0, rfl, ?_, Below.refl _ _⟩
  have hl : l = [] := List.eq_nil_of_length_eq_zero hN.out.symm
  subst hl
  exact World.ownsRow_nil _ _ _ _
 | some ad =>
  have hnil : ∀ W : World, (binOp .eql 29 (.slice (some ad) n c) (.slice none 0 0)).run Tryz.prog W = .ok (.bool false) W := fun W => Lib.run_eql_slice_nil W _ _ (some ad) n c 0 0 Tryz.underlying29
  have own0 := qh (World.ownsRow_lit (base := w.heap.size) (e := 80) (size := 6) w #[] 0 (Nat.le_refl _) (by unfold maxLen; omega) rfl)
  have hb0 := qh (qac w (.cells #[] 80))
  have hL1 := qh ((hL.out.below hb0.out).wider hb0.out.size)
  go_enter Tryz.func103, Tryz.ntmps103
  go_wp2_with ((with_reducible refine qb5 (x := .tmp 5) (y := .tmp 6) (t := 29) (e := 80) (size := 6) (bytes := 32) rfl rfl Tryz.underlying29 hI.out hZ.out hS.out hY.out rfl (by decide) ?_); refine qdk.mk (base := w.heap.size) (n := 0) (xs := []) rfl own0.out hL1.out (qbG _) (by unfold maxLen; omega) (by omega) (by simp) ?_; intro A2 k2 w2 own2 hg2; have OW := qh own2; have HG := qh hg2; clear own2 hg2)
  go_ret
  refine ⟨A2, k2, by simp, ?_, ?_⟩
  · have h := OW.out
    simpa using h
  · exact (hb0.out).grown HG.out (by simp) (fun k hk => by injection hk with hk; have : w.heap.size = k := hk; omega)
theorem qiA (g : Gm.G) (A : Option Addr) (n c : Nat) (w : World) (hn : n = g.qaa.length) (hn32 : n <= 60) (hr : Lies w w.heap.size 6 A n (Gm.qad g.qaa)) :
 Calls Tryz.prog 123 #[.agg (Gm.cells g (.slice A n c))] w fun e w' => ∃ A' c', e = .returned (.agg (Gm.cells g (.slice A' n c'))) /\ w'.ownsRow w.heap.size 80 6 (.slice A' n c') n (Gm.qad g.qaa) /\ Below w.heap.size w w' := by
 have b1 : Box ((w.alloc (.cells (Gm.cells g (.slice A n c)) 31)).alloc (.cells (Gm.cells qbx (.slice none 0 0)) 31)) w.heap.size 31 (Gm.cells g (.slice A n c)) := (Box.made _ _ _).alloc _
 have b2 : Box ((w.alloc (.cells (Gm.cells g (.slice A n c)) 31)).alloc (.cells (Gm.cells qbx (.slice none 0 0)) 31)) (w.heap.size + 1) 31 (Gm.cells qbx (.slice none 0 0)) := Box.qaq _ _ _ (by simp)
 have hb0 := qap w (.cells (Gm.cells g (.slice A n c)) 31) (.cells (Gm.cells qbx (.slice none 0 0)) 31)
 have c1 := qh (qhf g.qaa A n c _ hn hn32 ((hr.below hb0).wider hb0.size))
 have e58 := Gm.qbc g (.slice A n c)
 have hc := b1.cell
 have HB := qh hb0
 have B1 := qh b1
 have B2 := qh b2
 clear hr hn b1 b2 hb0
 go_enter Tryz.func123, Tryz.ntmps123
 go_wp2_with (first | (refine qaK rfl rfl ?_) | (go_at_call 103; ((with_reducible refine ((c1).out).mono ?_); rintro e w1 ⟨A', c', rfl, ho, hb⟩; have D1 := B1.out.below hb (by simp <;> omega); have D2 := B2.out.below hb (by simp <;> omega); have k1 := D1.cell; have f1 := D1.free; have O1 := qh ho; have HB1 := qh (HB.out.trans (hb.mono HB.out.size)); have F1 := qh (qch D1 (.slice A' n c')); have ne1 : w.heap.size + 1 ≠ w.heap.size := (by omega); have F2 := qh (D2.far (p := ⟨w.heap.size, 58, none⟩) ne1 (.slice A' n c')); have nO := qh (D1.qaM ho (by decide)); have nO2 := qh (D2.qaM ho (by decide)); clear D1 D2 ho hb ne1)) | ((with_reducible refine qaF rfl rfl ?_); apply qaN.mk rfl; exact F1.out) | ((with_reducible refine qbq rfl rfl ?_); apply qbm.mk rfl rfl rfl; exact F2.out))
 refine bodyPost_ret (v := .agg (Gm.cells g (.slice A' n c'))) ?_ ?_ ?_
 · exact results_cell_row rfl _ _ _ _ (Gm.cells g (.slice A' n c')) (0, 0) _ rfl (Box.row F2.out _).is Tryz.underlying31 rfl qbh
 · rfl
 · refine ⟨A', c', rfl, ?_, ?_⟩
   · have h := qbi (ownsRow_setCell_other (a := ⟨w.heap.size, 58, none⟩) O1.out nO.out (.slice A' n c')) nO2.out (Gm.cells g (.slice A' n c'))
     exact qbE h (by simp; omega)
   · exact Below.setRow' (HB1.out.setCell (p := ⟨w.heap.size, 58, none⟩) (by simp) _) (by omega) _
structure Keep (b B : Nat) (w w' : World) : Prop where
 os : w'.os = w.os
 tape : w'.tape = w.tape
 output : w'.output = w.output
 size : w.heap.size <= w'.heap.size
 low : b <= B
 block : ∀ k, k < w.heap.size -> (k < b \/ k ≠ B /\ ∀ cs, w.heap[k]? ≠ some (.cells cs 80 (0, 0))) -> w'.heap[k]? = w.heap[k]?
section
variable {b B : Nat} {w w' w'' : World}
theorem Keep.refl (h : b <= B) (w : World) : Keep b B w w := ⟨rfl, rfl, rfl, Nat.le_refl _, h, fun _ _ _ => rfl⟩
theorem Keep.trans (h : Keep b B w w') (k : Keep b B w' w'') : Keep b B w w'' :=
 ⟨k.os.trans h.os, k.tape.trans h.tape, k.output.trans h.output, Nat.le_trans h.size k.size, h.low, fun i hi hc => by
  have e := h.block i hi hc
  rw [<- e]
  refine k.block i (Nat.lt_of_lt_of_le hi h.size) ?_
  rcases hc with hc | ⟨h1, h2⟩
  · exact .inl hc
  · exact .inr ⟨h1, fun cs => by rw [e]; exact h2 cs⟩⟩
theorem Keep.on {c : Nat} (h : Keep b B w w') (hb : Below c w' w'') (hc : w'.heap.size <= c) : Keep b B w w'' :=
 h.trans ⟨hb.os, hb.tape, hb.output, hb.size, h.low, fun i hi _ => hb.block i (by omega)⟩
theorem Keep.call (h : Keep b B w w') (hb : Below w'.heap.size w' w'') : Keep b B w w'' := h.on hb (Nat.le_refl _)
theorem Keep.alloc (h : Keep b B w w') (o : Obj) : Keep b B w (w'.alloc o) := h.call (qac w' o)
theorem Keep.drew (h : Keep b B w w') : Keep b B w w'.drew := ⟨h.os, h.tape, h.output, h.size, h.low, h.block⟩
theorem Keep.put (h : Keep b B w w') (i : Nat) (u : Value) : Keep b B w (w'.setCell ⟨B, i, none⟩ u) := by
 have hg := (Below.refl 0 w').setCell (p := ⟨B, i, none⟩) (Nat.zero_le _) u
 refine h.trans ⟨hg.os, hg.tape, hg.output, hg.size, h.low, fun k hk hc => ?_⟩
 refine heap_setCell_other w' ⟨B, i, none⟩ k u ?_
 have := h.low
 show k ≠ B
 rcases hc with hc | hc
 · omega
 · exact hc.1
theorem Keep.row {g : Nat} {cs0 : Array Value} (h : Keep b B w w') (hg : Box w' g 80 cs0) (hbg : b <= g) (cs : Array Value) : Keep b B w (w'.setRow g cs) := by
 have hz := Below.setRow' (g := g) (Below.refl 0 w') (Nat.zero_le _) cs
 refine h.trans ⟨hz.os, hz.tape, hz.output, hz.size, h.low, fun k hk hc => setRow_other w' g k cs ?_⟩
 rcases hc with hc | hc
 · omega
 · intro e; subst e; exact hc.2 _ hg.is
theorem Keep.shot {g i : Nat} {u : Value} {cs0 : Array Value} (h : Keep b B w w') (hg : Box w' g 80 cs0) (hbg : b <= g) : Keep b B w (w'.setCell ⟨g, i, none⟩ u) := by
 have hz := (Below.refl 0 w').setCell (p := ⟨g, i, none⟩) (Nat.zero_le _) u
 refine h.trans ⟨hz.os, hz.tape, hz.output, hz.size, h.low, fun k hk hc => heap_setCell_other w' ⟨g, i, none⟩ k u ?_⟩
 show k ≠ g
 rcases hc with hc | hc
 · omega
 · intro e; subst e; exact hc.2 _ hg.is
theorem Keep.grown {n : Nat} {v : Value} {xs : List Value} (h : Keep b B w w') (ho : w'.ownsRow b 80 6 v n xs) (hg : w'.grownBy w'' v.ownBlock) : Keep b B w w'' := by
 refine h.trans ⟨hg.os, hg.tape, hg.output, hg.size, h.low, fun k hk hc => hg.block k hk fun e => ?_⟩
 obtain ⟨_, ⟨rfl, _⟩ | ⟨g, cap, cur, rfl, hbg, hgg, _⟩⟩ := ho
 · cases e
 · have e' : k = g := by injection e
   subst e'
   rcases hc with hc | hc
   · omega
   · exact hc.2 _ hgg
theorem Keep.grown' {n : Nat} {v : Value} {xs : List Value} {o : Obj} (h : Keep b B w w') (ho : w'.ownsRow b 80 6 v n xs) (hg : (w'.alloc o).grownBy w'' v.ownBlock) : Keep b B w w'' :=
 (h.alloc o).grown (ho.alloc o) hg
theorem Keep.fresh (h : Keep b B w w') {p : Addr} (hp : w.heap.size <= p.block) (u : Value) : Keep b B w (w'.setCell p u) := by
 have hz := (Below.refl 0 w').setCell (p := p) (Nat.zero_le _) u
 exact ⟨hz.os.trans h.os, hz.tape.trans h.tape, hz.output.trans h.output, Nat.le_trans h.size hz.size, h.low, fun k hk hc => (heap_setCell_other w' p k u (by omega)).trans (h.block k hk hc)⟩
theorem Keep.qlZ (h : Keep b B w w') {g : Nat} (hp : w.heap.size <= g) (cs : Array Value) : Keep b B w (w'.setRow g cs) := by
 have hz := Below.setRow' (g := g) (Below.refl 0 w') (Nat.zero_le _) cs
 exact ⟨hz.os.trans h.os, hz.tape.trans h.tape, hz.output.trans h.output, Nat.le_trans h.size hz.size, h.low, fun k hk hc => (setRow_other w' g k cs (by omega)).trans (h.block k hk hc)⟩
theorem Keep.to (h : Keep b B w w') (hs : b <= w.heap.size) : Below b w w' := ⟨h.os, h.tape, h.output, h.size, fun i hi => h.block i (by omega) (.inl hi)⟩
theorem Box.keep {g : Nat} {t : TypeId} {cs : Array Value} (h : Box w g t cs) (k : Keep b B w w') (hg : g ≠ B) (ht : t ≠ 80) : Box w' g t cs :=
 ⟨(k.block g h.lt (.inr ⟨hg, fun cs' e => by rw [h.is] at e; injection e with e; injection e with _ e _; exact ht e⟩)).trans h.is⟩
end
def Has (b B : Nat) (g : Gm.G) (w : World) : Prop :=
 ∃ A c, Box w B 31 (Gm.cells g (.slice A g.qaa.length c)) /\ w.ownsRow b 80 6 (.slice A g.qaa.length c) g.qaa.length (Gm.qad g.qaa)
theorem Has.lt {b B : Nat} {g : Gm.G} {w : World} (h : Has b B g w) : B < w.heap.size := by obtain ⟨A, c, h, _⟩ := h; exact h.lt
theorem Has.alloc {b B : Nat} {g : Gm.G} {w : World} (h : Has b B g w) (o : Obj) : Has b B g (w.alloc o) := by obtain ⟨A, c, h, h'⟩ := h; exact ⟨A, c, h.alloc o, h'.alloc o⟩
theorem Has.call {b B : Nat} {g : Gm.G} {w w' : World} (h : Has b B g w) (hb : Below w.heap.size w w') : Has b B g w' := by
 obtain ⟨A, c, h, h'⟩ := h; exact ⟨A, c, h.below hb h.lt, own_below h' hb (Nat.le_refl _)⟩
theorem Has.qoc {b B : Nat} {g : Gm.G} {w : World} {p : Nat} {t : TypeId} {cs : Array Value} (h : Has b B g w) (hne : p ≠ B) (hp : Box w p t cs) (ht : t ≠ 80) (cs' : Array Value) : Has b B g (w.setRow p cs') := by
 obtain ⟨A, c, h, h'⟩ := h
 exact ⟨A, c, h.qbn (fun e => hne e.symm) cs', qbi h' (hp.qaM h' (fun e => ht e.symm)) cs'⟩
theorem Has.put {b B : Nat} {g g' : Gm.G} {w w' : World} (h : Has b B g w) (hs : g'.qaa = g.qaa) (hB : ∀ s, Box w B 31 (Gm.cells g s) -> Box w' B 31 (Gm.cells g' s)) (hk : ∀ k, k ≠ B -> w'.heap[k]? = w.heap[k]?) : Has b B g' w' := by
 obtain ⟨A, c, h, h'⟩ := h
 refine ⟨A, c, by rw [hs]; exact hB _ h, ?_⟩
 rw [hs]
 have hne := h.qaM h' (by decide)
 obtain ⟨hl, e | ⟨gg, cap, cur, hv, hbg, hgg, hr⟩⟩ := h'
 · exact ⟨hl, .inl e⟩
 · refine ⟨hl, .inr ⟨gg, cap, cur, hv, hbg, (hk gg (fun e => hne (by rw [hv, e]; rfl))).trans hgg, hr⟩⟩
theorem qem {w : World} {B k : Nat} (s : Gm.Ship) (j : Nat) (hj : j ≠ B) : (stored w B k s).heap[j]? = w.heap[j]? := by
 unfold stored
 rw [heap_setCell_other _ _ j _ hj, heap_setCell_other _ _ j _ hj, heap_setCell_other _ _ j _ hj, heap_setCell_other _ _ j _ hj, heap_setCell_other _ _ j _ hj, heap_setCell_other _ _ j _ hj, heap_setCell_other _ _ j _ hj]
theorem Keep.stored {b B k : Nat} {w w' : World} (h : Keep b B w w') (s : Gm.Ship) : Keep b B w (stored w' B k s) :=
 ((((((h.put _ _).put _ _).put _ _).put _ _).put _ _).put _ _).put _ _
theorem Has.stored {b B k : Nat} {g : Gm.G} {w : World} (h : Has b B g w) (hk : k < 8) (s : Gm.Ship) : Has b B { g with ship := Gm.upd g.ship k s } (stored w B k s) :=
 h.put rfl (fun _ hB => qdH hB hk s) (fun j hj => qem s j hj)
def Out (g' : Gm.G) (code : Int) (w : World) (e : Ending) (w' : World) : Prop :=
 ∃ A c, e = .returned (.tuple #[.agg (Gm.cells g' (.slice A g'.qaa.length c)), .int .i64 code]) /\ Lies w' w'.heap.size 6 A g'.qaa.length (Gm.qad g'.qaa) /\ Below w.heap.size w w'
theorem qgk (n : Int) : IntKind.u64.wrap n = n % 18446744073709551616 := by simp [IntKind.wrap, IntKind.bits, IntKind.signed]
theorem qfs (d : Int) : IntKind.u64.wrap (IntKind.u64.wrap (d * 6364136223846793005) + 1442695040888963407) = Dn.next d := by
 rw [qgk, qgk]; unfold Dn.next
 generalize d * 6364136223846793005 = x
 omega
theorem qhD (d : Int) (wd : 0 <= d /\ d <= 18446744073709551615) : bits .xor .u64 d 0 = d := by
 rw [u64_xor d 0 wd.1 (Int.lt_of_le_of_lt wd.2 (by decide)) (by decide) (by decide)]
 have : d.toNat ^^^ (0 : Int).toNat = d.toNat := Nat.xor_zero _
 rw [this]
 exact Int.toNat_of_nonneg wd.1
theorem qkP (d : Int) (wd : 0 <= d /\ d <= 18446744073709551615) (w : World) :
 Calls Tryz.prog 164 #[.int .u64 d] w fun e w' => e = .returned (.int .u64 (Dn.next d)) /\ w = w' := by
 go_enter Tryz.func164, Tryz.ntmps164
 go_wp2
 go_ret
 exact ⟨qbL (qfs d), rfl⟩
theorem qmQ (w : World) (o1 o2 o3 o4 : Obj) : Below w.heap.size w ((((w.alloc o1).alloc o2).alloc o3).alloc o4) :=
 ((((Below.refl _ _).alloc (Nat.le_refl _) _).alloc (by simp) _).alloc (by simp; omega) _).alloc (by simp; omega) _
theorem qje (d n : Int) (wd : 0 <= d /\ d <= 18446744073709551615) (wn : 1 <= n /\ n <= 2147483647) (w : World) :
 Calls Tryz.prog 194 #[.int .u64 d, .int .i64 n] w fun e w' => e = .returned (.int .i64 (Dn.share d n)) /\ w = w' := by
 have hp := Dn.qdb wd wn
 go_enter Tryz.func194, Tryz.ntmps194
 go_wp2
 go_ret
 exact ⟨qbL rfl, rfl⟩
theorem qhM (d n : Int) (wd : 0 <= d /\ d <= 18446744073709551615) (wn : 1 <= n /\ n <= 2147483647) (w : World) :
 Calls Tryz.prog 134 #[.int .u64 d, .int .i64 n] w fun e w' => e = .returned (.tuple #[.int .i64 (Dn.share (Dn.next d) n), .int .u64 (Dn.next d)]) /\ w = w' := by
 have c1 := fun X => qh (qkP d wd X)
 have hb := Dn.qcI d
 have hp := Dn.qdb hb wn
 have hs : Hid (Dn.share (Dn.next d) n = Dn.next d / 4294967296 * n / 4294967296) := qh rfl
 go_enter Tryz.func134, Tryz.ntmps134
 go_wp2_with (go_at_call 164; ((with_reducible refine ((c1 _).out).mono ?_); rintro e w' ⟨rfl, rfl⟩))
 go_ret2
 exact ⟨by rw [hs.out]; rfl, rfl⟩
theorem qfG (d : Int) (wd : 0 <= d /\ d <= 18446744073709551615) (w : World) :
 Calls Tryz.prog 108 #[.int .u64 d] w fun e w' => e = .returned (.tuple #[.int .i32 (Dn.share (Dn.next d) 16777216), .int .i32 (Dn.share (Dn.next (Dn.next d)) 16777216), .int .u64 (Dn.next (Dn.next d))]) /\ w = w' := by
 have c1 := fun X => qh (qhM d 16777216 wd (by omega) X)
 have c2 := fun X => qh (qhM (Dn.next d) 16777216 (Dn.qcI d) (by omega) X)
 have b1 := Dn.qdb (Dn.qcI d) (show (1 : Int) <= 16777216 /\ (16777216 : Int) <= 2147483647 by omega)
 have b2 := Dn.qdb (Dn.qcI (Dn.next d)) (show (1 : Int) <= 16777216 /\ (16777216 : Int) <= 2147483647 by omega)
 go_enter Tryz.func108, Tryz.ntmps108
 go_wp2_with (go_at_call 134; first | ((with_reducible refine ((c1 _).out).mono ?_); rintro e w' ⟨rfl, rfl⟩) | ((with_reducible refine ((c2 _).out).mono ?_); rintro e w' ⟨rfl, rfl⟩))
 go_ret3
 exact ⟨rfl, rfl⟩
theorem qjD (d : Int) (wd : 0 <= d /\ d <= 18446744073709551615) (w : World) :
 Calls Tryz.prog 178 #[.int .u64 d] w fun e w' => e = .returned (.tuple #[.int .i32 (Dn.share (Dn.next d) 16777216), .int .i32 (Dn.share (Dn.next (Dn.next d)) 16777216), .int .u64 (Dn.next (Dn.next d))]) /\ Below w.heap.size w w' := by
 have hmf : ∀ (fn : Fn) (first cap : Array Value) (w : World), (Instr.makeFunc fn first cap).run Tryz.prog w = .ok (.func fn first cap) w := fun _ _ _ _ => rfl
 have h1 := qhD d wd
 have h2 := qfs d
 have h3 := qhD _ (Dn.qcI d)
 have h4 := qfs (Dn.next d)
 have c1 := fun X => qh (qje (Dn.next d) 16777216 (Dn.qcI _) (by omega) X)
 have c2 := fun X => qh (qje (Dn.next (Dn.next d)) 16777216 (Dn.qcI _) (by omega) X)
 have b1 := Dn.qdb (Dn.qcI d) (show (1 : Int) <= 16777216 /\ (16777216 : Int) <= 2147483647 by omega)
 have b2 := Dn.qdb (Dn.qcI (Dn.next d)) (show (1 : Int) <= 16777216 /\ (16777216 : Int) <= 2147483647 by omega)
 go_enter Tryz.func178, Tryz.ntmps178
 go_wp2_with (first | (go_at_call 194; first | ((with_reducible refine ((c1 _).out).mono ?_); rintro e w' ⟨rfl, rfl⟩) | ((with_reducible refine ((c2 _).out).mono ?_); rintro e w' ⟨rfl, rfl⟩)) | go_in)
 go_ret3
 exact ⟨rfl, qmQ _ _ _ _ _⟩
theorem qb7 : (Tryz.prog.info? 48).map (·.size) = some 3 := by kernel_rfl
theorem qd1 : (Tryz.prog.info? 27).map (·.size) = some 7 := by kernel_rfl
theorem qpY (x y p : Int) (wx : -128 <= x /\ x <= 127) (wy : -128 <= y /\ y <= 127) (w : World) :
 Calls Tryz.prog 98 #[.agg #[.int .i8 x, .int .i8 y, .int .u8 p]] w fun e w' => e = .returned (.bool (decide (x ≠ -128) && decide (y ≠ -128))) /\ Below w.heap.size w w' := by
 go_enter Tryz.func98, Tryz.ntmps98
 go_wp2
 all_goals
  go_ret
  exact ⟨qal (by rw [Bool.eq_iff_iff]; simp_all <;> omega), qac _ _⟩
def Gm.qno (p : Gm.In) : Gm.In := ⟨Gf.tame p.x, Gf.tame p.y, p.b⟩
theorem qpI (p : Gm.In) (hp : Gm.tyIn p) (w : World) :
 Calls Tryz.prog 126 #[.agg p.cells.toArray] w fun e w' => e = .returned (.agg (Gm.qno p).cells.toArray) /\ Below w.heap.size w w' := by
 obtain ⟨x, y, p⟩ := p
 obtain ⟨wx, wy, wp⟩ := hp
 dsimp only at wx wy wp
 have b1 : Box ((w.alloc (.cells #[.int .i8 x, .int .i8 y, .int .u8 p] 48)).alloc (.cells #[.int .i8 0, .int .i8 0, .int .u8 0] 48)) w.heap.size 48 #[.int .i8 x, .int .i8 y, .int .u8 p] := (Box.made _ _ _).alloc _
 have b2 : Box ((w.alloc (.cells #[.int .i8 x, .int .i8 y, .int .u8 p] 48)).alloc (.cells #[.int .i8 0, .int .i8 0, .int .u8 0] 48)) (w.heap.size + 1) 48 #[.int .i8 0, .int .i8 0, .int .u8 0] := Box.qaq _ _ _ (by simp)
 have hb0 := qh (qap w (.cells #[.int .i8 x, .int .i8 y, .int .u8 p] 48) (.cells #[.int .i8 0, .int .i8 0, .int .u8 0] 48))
 have hc := b1.cell
 have B1 := qh b1
 have B2 := qh b2
 clear b1 b2
 simp only [Gm.In.cells, Gm.qno]
 by_cases hm : x ≠ -128 /\ y ≠ -128
 · have c1 := fun X => qh (qpY x y p wx wy X)
   rw [decide_eq_true hm.1, decide_eq_true hm.2, Bool.and_self] at c1
   rw [Gf.qeB hm.1, Gf.qeB hm.2]
   clear hm
   go_enter Tryz.func126, Tryz.ntmps126
   go_wp2_with (first | (go_at_call 98; ((with_reducible refine ((c1 _).out).mono ?_); rintro e w1 ⟨rfl, hb⟩; have D1 := B1.out.below hb (by simp <;> omega); have D2 := B2.out.below hb (by simp <;> omega); have k1 := D1.cell; have k2 := D2.cell; have f2 := D2.free; have l2 := D2.lt; have HB := qh hb; have DD := qh D2; clear D1 D2 hb hc)) | ((with_reducible refine qdI (t := 48) rfl rfl qb7 ?_); apply qcA.mk rfl rfl; exact DD.out; (focus (simp [Value.oneCell'])); (focus rfl); (focus rfl)))
   refine bodyPost_ret (v := .agg #[.int .i8 x, .int .i8 y, .int .u8 p]) ?_ ?_ ?_
   · exact results_cell_row rfl _ _ _ _ #[.int .i8 x, .int .i8 y, .int .u8 p] (0, 0) _ rfl (Box.row DD.out _).is Tryz.underlying48 rfl qb7
   · rfl
   · exact ⟨rfl, Below.setRow' (hb0.out.trans (HB.out.mono hb0.out.size)) (by omega) _⟩
 · have c1 := fun X => qh (qpY x y p wx wy X)
   rw [show (decide (x ≠ -128) && decide (y ≠ -128)) = false by simp; omega] at c1
   by_cases hx : x = -128
   · subst hx
     rw [show Gf.tame (-128) = -127 from rfl]
     by_cases hy : y = -128
     · subst hy
       rw [show Gf.tame (-128) = -127 from rfl]
       clear hm wx wy
       go_enter Tryz.func126, Tryz.ntmps126
       go_wp2_with (first | (go_at_call 98; ((with_reducible refine ((c1 _).out).mono ?_); rintro e w1 ⟨rfl, hb⟩; have D1 := B1.out.below hb (by simp <;> omega); have D2 := B2.out.below hb (by simp <;> omega); have k1 := D1.cell; have f1 := D1.free; have l1 := D1.lt; have k2 := D2.cell; have f2 := D2.free; have l2 := D2.lt; have HB := qh hb; have ne1 : w.heap.size + 1 ≠ w.heap.size := (by omega); have DD := qh ((D2.far (p := ⟨w.heap.size, 0, none⟩) ne1 (.int .i8 (-127))).far (p := ⟨w.heap.size, 1, none⟩) ne1 (.int .i8 (-127))); clear D1 D2 hb hc ne1)) | ((with_reducible refine qdI (t := 48) rfl rfl qb7 ?_); apply qcA.mk rfl rfl; exact DD.out; (focus (simp [Value.oneCell'])); (focus rfl); (focus rfl)))
       refine bodyPost_ret (v := .agg #[.int .i8 (-127), .int .i8 (-127), .int .u8 p]) ?_ ?_ ?_
       · exact results_cell_row rfl _ _ _ _ #[.int .i8 (-127), .int .i8 (-127), .int .u8 p] (0, 0) _ rfl (Box.row DD.out _).is Tryz.underlying48 rfl qb7
       · rfl
       · exact ⟨rfl, Below.setRow' (((hb0.out.trans (HB.out.mono hb0.out.size)).setCell (p := ⟨w.heap.size, 0, none⟩) (Nat.le_refl _) _).setCell (p := ⟨w.heap.size, 1, none⟩) (Nat.le_refl _) _) (by omega) _⟩
     · rw [Gf.qeB hy]
       have hy' : -127 <= y := by omega
       clear hm wx
       go_enter Tryz.func126, Tryz.ntmps126
       go_wp2_with (first | (go_at_call 98; ((with_reducible refine ((c1 _).out).mono ?_); rintro e w1 ⟨rfl, hb⟩; have D1 := B1.out.below hb (by simp <;> omega); have D2 := B2.out.below hb (by simp <;> omega); have k1 := D1.cell; have f1 := D1.free; have l1 := D1.lt; have k2 := D2.cell; have f2 := D2.free; have l2 := D2.lt; have HB := qh hb; have ne1 : w.heap.size + 1 ≠ w.heap.size := (by omega); have DD := qh ((D2.far (p := ⟨w.heap.size, 0, none⟩) ne1 (.int .i8 (-127))).far (p := ⟨w.heap.size, 1, none⟩) ne1 (.int .i8 y)); clear D1 D2 hb hc ne1)) | ((with_reducible refine qdI (t := 48) rfl rfl qb7 ?_); apply qcA.mk rfl rfl; exact DD.out; (focus (simp [Value.oneCell'])); (focus rfl); (focus rfl)))
       refine bodyPost_ret (v := .agg #[.int .i8 (-127), .int .i8 y, .int .u8 p]) ?_ ?_ ?_
       · exact results_cell_row rfl _ _ _ _ #[.int .i8 (-127), .int .i8 y, .int .u8 p] (0, 0) _ rfl (Box.row DD.out _).is Tryz.underlying48 rfl qb7
       · rfl
       · exact ⟨rfl, Below.setRow' (((hb0.out.trans (HB.out.mono hb0.out.size)).setCell (p := ⟨w.heap.size, 0, none⟩) (Nat.le_refl _) _).setCell (p := ⟨w.heap.size, 1, none⟩) (Nat.le_refl _) _) (by omega) _⟩
   · have hy : y = -128 := by omega
     subst hy
     rw [Gf.qeB hx, show Gf.tame (-128) = -127 from rfl]
     have hx' : -127 <= x := by omega
     clear hm wy
     go_enter Tryz.func126, Tryz.ntmps126
     go_wp2_with (first | (go_at_call 98; ((with_reducible refine ((c1 _).out).mono ?_); rintro e w1 ⟨rfl, hb⟩; have D1 := B1.out.below hb (by simp <;> omega); have D2 := B2.out.below hb (by simp <;> omega); have k1 := D1.cell; have f1 := D1.free; have l1 := D1.lt; have k2 := D2.cell; have f2 := D2.free; have l2 := D2.lt; have HB := qh hb; have ne1 : w.heap.size + 1 ≠ w.heap.size := (by omega); have DD := qh ((D2.far (p := ⟨w.heap.size, 0, none⟩) ne1 (.int .i8 x)).far (p := ⟨w.heap.size, 1, none⟩) ne1 (.int .i8 (-127))); clear D1 D2 hb hc ne1)) | ((with_reducible refine qdI (t := 48) rfl rfl qb7 ?_); apply qcA.mk rfl rfl; exact DD.out; (focus (simp [Value.oneCell'])); (focus rfl); (focus rfl)))
     refine bodyPost_ret (v := .agg #[.int .i8 x, .int .i8 (-127), .int .u8 p]) ?_ ?_ ?_
     · exact results_cell_row rfl _ _ _ _ #[.int .i8 x, .int .i8 (-127), .int .u8 p] (0, 0) _ rfl (Box.row DD.out _).is Tryz.underlying48 rfl qb7
     · rfl
     · exact ⟨rfl, Below.setRow' (((hb0.out.trans (HB.out.mono hb0.out.size)).setCell (p := ⟨w.heap.size, 0, none⟩) (Nat.le_refl _) _).setCell (p := ⟨w.heap.size, 1, none⟩) (Nat.le_refl _) _) (by omega) _⟩
theorem qmD (g : Gm.G) (b B : Nat) (sc : Int) (x y d : Int) (w : World) (hbB : b <= B) (h : Has b B g w) (hd : 0 <= g.dice /\ g.dice <= 18446744073709551615)
 (hx : Dn.share (Dn.next g.dice) 16777216 = x) (hy : Dn.share (Dn.next (Dn.next g.dice)) 16777216 = y) (hdd : Dn.next (Dn.next g.dice) = d) :
 Calls Tryz.prog 151 #[.pointer (some ⟨B, 0, none⟩), .int .i64 sc] w fun e w' => e = .returned (.agg #[.bool true, .int .i32 x, .int .i32 y, .int .i32 0, .int .i32 0, .int .i64 0, .int .i64 sc]) /\ Has b B { g with dice := d } w' /\ Keep b B w w' := by
 have c1 := fun X => qh (qjD g.dice hd X)
 rw [hx, hy, hdd] at c1
 have HH := qh (h.alloc (.cells #[.bool false, .int .i32 0, .int .i32 0, .int .i32 0, .int .i32 0, .int .i64 0, .int .i64 0] 27))
 have HK := qh ((Keep.refl hbB w).alloc (.cells #[.bool false, .int .i32 0, .int .i32 0, .int .i32 0, .int .i32 0, .int .i64 0, .int .i64 0] 27))
 have hBs := h.lt
 obtain ⟨A, c, hB, hO⟩ := h
 have bT : Box (w.alloc (.cells #[.bool false, .int .i32 0, .int .i32 0, .int .i32 0, .int .i32 0, .int .i64 0, .int .i64 0] 27)) w.heap.size 27 #[.bool false, .int .i32 0, .int .i32 0, .int .i32 0, .int .i32 0, .int .i64 0, .int .i64 0] := Box.made _ _ _
 have BT := qh bT
 have BG := qh (hB.alloc (.cells #[.bool false, .int .i32 0, .int .i32 0, .int .i32 0, .int .i32 0, .int .i64 0, .int .i64 0] 27))
 have hc := BG.out.cell
 have e1 := Gm.qcg g (.slice A g.qaa.length c)
 clear bT hB hO hx hy hdd
 go_enter Tryz.func151, Tryz.ntmps151
 go_wp2_with (first | (go_at_call 178; ((with_reducible refine ((c1 _).out).mono ?_); rintro e w1 ⟨rfl, hb⟩; have D1 := BG.out.below hb (by simp <;> omega); have T1 := BT.out.below hb (by simp <;> omega); have k1 := D1.cell; have f1 := D1.free; have H1 := qh (HH.out.call hb); have K1 := qh ((HK.out.call hb).put 1 (.int .u64 d)); have ne1 : w.heap.size ≠ B := (by omega); have T2 := qh (T1.far (p := ⟨B, 1, none⟩) ne1 (.int .u64 d)); clear D1 T1 hb ne1)) | (refine qaT rfl (t := 27) (vs := [(0, .bool true), (1, .int .i32 x), (2, .int .i32 y), (6, .int .i64 sc)]) rfl rfl (qh6 _ _ _) ?_) | ((with_reducible refine qdI (t := 27) rfl rfl qd1 ?_); apply qcA.mk rfl rfl; exact T2.out; (focus (simp [Value.oneCell'])); (focus rfl); (focus rfl)))
 refine bodyPost_ret (v := .agg #[.bool true, .int .i32 x, .int .i32 y, .int .i32 0, .int .i32 0, .int .i64 0, .int .i64 sc]) ?_ ?_ ?_
 · exact results_cell_row rfl _ _ _ _ #[.bool true, .int .i32 x, .int .i32 y, .int .i32 0, .int .i32 0, .int .i64 0, .int .i64 sc] (0, 0) _ rfl (Box.row T2.out _).is Tryz.underlying27 rfl qd1
 · rfl
 · refine ⟨rfl, ?_, K1.out.qlZ (Nat.le_refl _) _⟩
   have h2 : Has b B { g with dice := d } (w1.setCell ⟨B, 1, none⟩ (.int .u64 d)) := H1.out.put rfl (fun _ hB => qgh hB d) (fun j hj => heap_setCell_other _ _ j _ hj)
   exact h2.qoc (by omega) T2.out (by decide) _
end Go.Proofs.YtmiopphcfdlneaaGreat