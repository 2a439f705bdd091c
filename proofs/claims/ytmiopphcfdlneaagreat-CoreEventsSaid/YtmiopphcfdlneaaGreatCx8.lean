/-
Several texts in one: I3 I4 I5 Ik Il Ip Iq Rgn Qua.
-/
import Derived.Test.YtmiopphcfdlneaaGreatCx7
set_option maxRecDepth 100000
set_option maxHeartbeats 8000000
set_option linter.unusedVariables false
set_option linter.unusedSimpArgs false
namespace Go.Proofs.YtmiopphcfdlneaaGreat
open Go.RowKit
theorem qo8 (s t : Gm.Ship) (w : World) : (binOp .neq 27 (.agg s.cells.toArray) (.agg t.cells.toArray)).run Tryz.prog w = .ok (.bool (!s.eqB t)) w := by
 simp only [binOp]
 simp [Op.equal, Op.maxDepth, qlK]
theorem qmt (g : Gm.G) (A : Option Addr) (n c : Nat) (w : World) (hty : Gm.ty g) (hn : n = g.qaa.length) (hn63 : n <= maxLen) (hr : Lies w w.heap.size 6 A n (Gm.qad g.qaa)) :
 Calls Tryz.prog 66 #[.agg (Gm.cells g (.slice A n c))] w fun e w' => (∃ v, e = .returned (.bool v) /\ (v = true ↔ Gm.ok g)) /\ Below w.heap.size w w' := by
 have hN : Hid (n = g.qaa.length) := qh hn
 have n63 : (n : Int) <= 9223372036854775807 := by unfold maxLen at hn63; omega
 have hc : ∀ W : World, ∀ j, (W.alloc (.cells (Gm.cells g (.slice A n c)) 31)).cell? ⟨W.heap.size, j, none⟩ = (Gm.cells g (.slice A n c))[j]? := fun W j => (Box.made W _ _).cell j
 have h0 := Gm.qa1 g (.slice A n c)
 have h58 := Gm.qbc g (.slice A n c)
 clear hn hn63
 by_cases hf : g.frame < 0
 · have d1 : decide (g.frame < 0) = true := decide_eq_true hf
   have hno := qh (show ¬ Gm.ok g from fun h => by have := h.1; omega)
   clear hr hf hty
   go_enter Tryz.func66, Tryz.ntmps66
   go_wp2
   go_ret
   exact ⟨by first | exact ⟨false, rfl, by simp; exact hno.out⟩ | exact .inl ⟨rfl, hno.out⟩, qac _ _⟩
 have d1 : decide (g.frame < 0) = false := decide_eq_false hf
 by_cases hf2 : 1048576 < g.frame
 · have d2 : decide (1048576 < g.frame) = true := decide_eq_true hf2
   have hno := qh (show ¬ Gm.ok g from fun h => by have := h.2.1; omega)
   clear hr hf hf2 hty
   go_enter Tryz.func66, Tryz.ntmps66
   go_wp2
   go_ret
   exact ⟨by first | exact ⟨false, rfl, by simp; exact hno.out⟩ | exact .inl ⟨rfl, hno.out⟩, qac _ _⟩
 have d2 : decide (1048576 < g.frame) = false := decide_eq_false hf2
 by_cases hf3 : 32 < (n : Int)
 · have d3 : decide (32 < (n : Int)) = true := decide_eq_true hf3
   have hno := qh (show ¬ Gm.ok g from fun h => by have := h.2.2.1; have := hN.out; omega)
   clear hr hf hf2 hf3 hty
   go_enter Tryz.func66, Tryz.ntmps66
   go_wp2
   go_ret
   exact ⟨by first | exact ⟨false, rfl, by simp; exact hno.out⟩ | exact .inl ⟨rfl, hno.out⟩, qac _ _⟩
 have d3 : decide (32 < (n : Int)) = false := decide_eq_false hf3
 have HF := qh (show 0 <= g.frame /\ g.frame <= 1048576 /\ g.qaa.length <= 32 from ⟨by omega, by omega, by have := hN.out; omega⟩)
 obtain ⟨_, _, hships, hshots⟩ := hty
 clear hf hf2 hf3
 go_enter Tryz.func66, Tryz.ntmps66
 go_wp2
 go_loopw [3] (fun i wr => ∃ k : Nat, k <= 8 /\ i = .int .i64 k /\ Box wr w.heap.size 31 (Gm.cells g (.slice A n c)) /\ Below w.heap.size w wr /\ ∀ j, j < k -> Gm.qaX (g.ship j)) (fun i _ => 8 - (intOf i).toNat)
 case atStart => exact ⟨0, by omega, rfl, Box.made _ _ _, qac _ _, fun j hj => absurd hj (Nat.not_lt_zero j)⟩
 case round =>
  obtain ⟨k, hk, rfl, hB, hb, hall⟩ := hrel
  have HALL := qh hall
  clear hall
  by_cases hlt : k < 8
  · have hcr := hB.cell
    have hlB := hB.lt
    have e0 := qaY hcr hlt 0 (by omega)
    have e1 := qaY hcr hlt 1 (by omega)
    have e2 := qaY hcr hlt 2 (by omega)
    have e3 := qaY hcr hlt 3 (by omega)
    have e4 := qaY hcr hlt 4 (by omega)
    have e5 := qaY hcr hlt 5 (by omega)
    have e6 := qaY hcr hlt 6 (by omega)
    have ty := hships k hlt
    have HS := qh (show Gm.ok g -> Gm.qaX (g.ship k) from fun h => h.2.2.2.1 k hlt)
    have HZ := qh (show Gm.qaX (g.ship k) -> ∀ j, j < k + 1 -> Gm.qaX (g.ship j) from fun h j hj => by
     by_cases e : j = k
     · rw [e]; exact h
     · exact HALL.out j (by omega))
    generalize g.ship k = s at e0 e1 e2 e3 e4 e5 e6 ty HS HZ
    obtain ⟨on, x, y, vx, vy, cool, score⟩ := s
    simp only [Gm.Ship.cells, List.getElem?_cons_zero, List.getElem?_cons_succ, Nat.add_zero] at e0 e1 e2 e3 e4 e5 e6
    obtain ⟨tx, ty, tvx, tvy, tc, ts⟩ := ty
    unfold Gm.i32 Gm.i64 at *
    dsimp only at tx ty tvx tvy tc ts
    have hk8 : (k : Int) < 8 := by omega
    have HB := qh hB
    have HBB := qh hb
    clear hc hcr hships hshots h0 h58 d1 d2 d3 hB hb
    cases on
    · by_cases hz : (⟨false, x, y, vx, vy, cool, score⟩ : Gm.Ship) = Gm.Ship.none
      · have ho := qh (HZ.out (by rw [hz]; refine ⟨.inr rfl, ?_, ?_, ?_, ?_, ?_, ?_, ?_, ?_⟩ <;> simp [Gm.Ship.none, Gm.inF, Gm.slow]))
        injection hz with z1 z2 z3 z4 z5 z6 z7
        subst z2 z3 z4 z5 z6 z7
        clear HS HZ tx ty tvx tvy tc ts
        go_wp2
        go_roundw
        case rel => exact ⟨k + 1, by omega, by go_num, HB.out.alloc _, HBB.out.alloc (Nat.le_of_lt hlB) _, ho.out⟩
        case measure => simp [intOf]; omega
      · have he := fun W => qo8 ⟨false, x, y, vx, vy, cool, score⟩ Gm.Ship.none W
        rw [show (⟨false, x, y, vx, vy, cool, score⟩ : Gm.Ship).eqB Gm.Ship.none = false by
         cases hq : (⟨false, x, y, vx, vy, cool, score⟩ : Gm.Ship).eqB Gm.Ship.none
         · rfl
         · exact absurd (Gm.Ship.qoD.1 hq) hz] at he
        simp only [Gm.Ship.cells, Gm.Ship.none, Bool.not_false] at he
        have hno := qh (show ¬ Gm.ok g from fun h => (HS.out h).1.elim (fun hh => absurd hh (by simp)) hz)
        clear HS HZ hz tx ty tvx tvy tc ts
        go_wp2
        go_ret
        exact ⟨by first | exact ⟨false, rfl, by simp; exact hno.out⟩ | exact .inl ⟨rfl, hno.out⟩, HBB.out.alloc (Nat.le_of_lt hlB) _⟩
    · skip
      have cx := fun X => qh (qeG x tx X)
      have cy := fun X => qh (qeG y ty X)
      have cvx := fun X => qh (qdz vx 524288 tvx (by omega) X)
      have cvy := fun X => qh (qdz vy 524288 tvy (by omega) X)
      obtain ⟨bx, hx⟩ : ∃ b, b = (decide (0 <= x) && decide (x < 16777216)) := ⟨_, rfl⟩
      obtain ⟨b_y, hy⟩ : ∃ b, b = (decide (0 <= y) && decide (y < 16777216)) := ⟨_, rfl⟩
      obtain ⟨bvx, hvx⟩ : ∃ b, b = (decide (-524288 <= vx) && decide (vx <= 524288)) := ⟨_, rfl⟩
      obtain ⟨bvy, hvy⟩ : ∃ b, b = (decide (-524288 <= vy) && decide (vy <= 524288)) := ⟨_, rfl⟩
      rw [<- hx] at cx; rw [<- hy] at cy; rw [<- hvx] at cvx; rw [<- hvy] at cvy
      have HX := qh (show bx = true ↔ Gm.inF x by rw [hx]; unfold Gm.inF; simp)
      have HY := qh (show b_y = true ↔ Gm.inF y by rw [hy]; unfold Gm.inF; simp)
      have HVX := qh (show bvx = true ↔ Gm.slow vx 524288 by rw [hvx]; unfold Gm.slow; simp)
      have HVY := qh (show bvy = true ↔ Gm.slow vy 524288 by rw [hvy]; unfold Gm.slow; simp)
      have HO := qh (show Gm.ok g -> bx = true /\ b_y = true /\ bvx = true /\ bvy = true /\ 0 <= cool /\ cool <= 10 /\ 0 <= score /\ score <= 1073741824 from fun h => by obtain ⟨_, h1, h2, h3, h4, h5, h6, h7, h8⟩ := HS.out h; exact ⟨HX.out.2 h1, HY.out.2 h2, HVX.out.2 h3, HVY.out.2 h4, h5, h6, h7, h8⟩)
      have HQ := qh (show (bx = true /\ b_y = true /\ bvx = true /\ bvy = true /\ 0 <= cool /\ cool <= 10 /\ 0 <= score /\ score <= 1073741824) -> ∀ j, j < k + 1 -> Gm.qaX (g.ship j) from fun ⟨h1, h2, h3, h4, h5, h6, h7, h8⟩ => HZ.out ⟨.inl rfl, HX.out.1 h1, HY.out.1 h2, HVX.out.1 h3, HVY.out.1 h4, h5, h6, h7, h8⟩)
      clear hx hy hvx hvy HX HY HVX HVY HS HZ tx ty tvx tvy tc ts
      cases bx
      · have hno := qh (show ¬ Gm.ok g from fun h => by have := (HO.out h).1; simp at this)
        clear HO HQ
        go_wp2_with (first | (go_at_call 104; first | ((with_reducible refine ((cx _).out).mono ?_); rintro e v1 ⟨rfl, rfl⟩) | ((with_reducible refine ((cy _).out).mono ?_); rintro e v1 ⟨rfl, rfl⟩)) | (go_at_call 105; first | ((with_reducible refine ((cvx _).out).mono ?_); rintro e v1 ⟨rfl, rfl⟩) | ((with_reducible refine ((cvy _).out).mono ?_); rintro e v1 ⟨rfl, rfl⟩)))
        go_ret
        exact ⟨by first | exact ⟨false, rfl, by simp; exact hno.out⟩ | exact .inl ⟨rfl, hno.out⟩, HBB.out.alloc (Nat.le_of_lt hlB) _⟩
      cases b_y
      · have hno := qh (show ¬ Gm.ok g from fun h => by have := (HO.out h).2.1; simp at this)
        clear HO HQ
        go_wp2_with (first | (go_at_call 104; first | ((with_reducible refine ((cx _).out).mono ?_); rintro e v1 ⟨rfl, rfl⟩) | ((with_reducible refine ((cy _).out).mono ?_); rintro e v1 ⟨rfl, rfl⟩)) | (go_at_call 105; first | ((with_reducible refine ((cvx _).out).mono ?_); rintro e v1 ⟨rfl, rfl⟩) | ((with_reducible refine ((cvy _).out).mono ?_); rintro e v1 ⟨rfl, rfl⟩)))
        go_ret
        exact ⟨by first | exact ⟨false, rfl, by simp; exact hno.out⟩ | exact .inl ⟨rfl, hno.out⟩, HBB.out.alloc (Nat.le_of_lt hlB) _⟩
      cases bvx
      · have hno := qh (show ¬ Gm.ok g from fun h => by have := (HO.out h).2.2.1; simp at this)
        clear HO HQ
        go_wp2_with (first | (go_at_call 104; first | ((with_reducible refine ((cx _).out).mono ?_); rintro e v1 ⟨rfl, rfl⟩) | ((with_reducible refine ((cy _).out).mono ?_); rintro e v1 ⟨rfl, rfl⟩)) | (go_at_call 105; first | ((with_reducible refine ((cvx _).out).mono ?_); rintro e v1 ⟨rfl, rfl⟩) | ((with_reducible refine ((cvy _).out).mono ?_); rintro e v1 ⟨rfl, rfl⟩)))
        go_ret
        exact ⟨by first | exact ⟨false, rfl, by simp; exact hno.out⟩ | exact .inl ⟨rfl, hno.out⟩, HBB.out.alloc (Nat.le_of_lt hlB) _⟩
      cases bvy
      · have hno := qh (show ¬ Gm.ok g from fun h => by have := (HO.out h).2.2.2.1; simp at this)
        clear HO HQ
        go_wp2_with (first | (go_at_call 104; first | ((with_reducible refine ((cx _).out).mono ?_); rintro e v1 ⟨rfl, rfl⟩) | ((with_reducible refine ((cy _).out).mono ?_); rintro e v1 ⟨rfl, rfl⟩)) | (go_at_call 105; first | ((with_reducible refine ((cvx _).out).mono ?_); rintro e v1 ⟨rfl, rfl⟩) | ((with_reducible refine ((cvy _).out).mono ?_); rintro e v1 ⟨rfl, rfl⟩)))
        go_ret
        exact ⟨by first | exact ⟨false, rfl, by simp; exact hno.out⟩ | exact .inl ⟨rfl, hno.out⟩, HBB.out.alloc (Nat.le_of_lt hlB) _⟩
      by_cases q0 : cool < 0
      · have f0 : decide (cool < 0) = true := decide_eq_true q0
        have hno := qh (show ¬ Gm.ok g from fun h => by have := (HO.out h).2.2.2.2.1; omega)
        clear HO HQ q0
        go_wp2_with (first | (go_at_call 104; first | ((with_reducible refine ((cx _).out).mono ?_); rintro e v1 ⟨rfl, rfl⟩) | ((with_reducible refine ((cy _).out).mono ?_); rintro e v1 ⟨rfl, rfl⟩)) | (go_at_call 105; first | ((with_reducible refine ((cvx _).out).mono ?_); rintro e v1 ⟨rfl, rfl⟩) | ((with_reducible refine ((cvy _).out).mono ?_); rintro e v1 ⟨rfl, rfl⟩)))
        go_ret
        exact ⟨by first | exact ⟨false, rfl, by simp; exact hno.out⟩ | exact .inl ⟨rfl, hno.out⟩, HBB.out.alloc (Nat.le_of_lt hlB) _⟩
      have f0 : decide (cool < 0) = false := decide_eq_false q0
      by_cases q1 : 10 < cool
      · have f1 : decide (10 < cool) = true := decide_eq_true q1
        have hno := qh (show ¬ Gm.ok g from fun h => by have := (HO.out h).2.2.2.2.2.1; omega)
        clear HO HQ q0 q1
        go_wp2_with (first | (go_at_call 104; first | ((with_reducible refine ((cx _).out).mono ?_); rintro e v1 ⟨rfl, rfl⟩) | ((with_reducible refine ((cy _).out).mono ?_); rintro e v1 ⟨rfl, rfl⟩)) | (go_at_call 105; first | ((with_reducible refine ((cvx _).out).mono ?_); rintro e v1 ⟨rfl, rfl⟩) | ((with_reducible refine ((cvy _).out).mono ?_); rintro e v1 ⟨rfl, rfl⟩)))
        go_ret
        exact ⟨by first | exact ⟨false, rfl, by simp; exact hno.out⟩ | exact .inl ⟨rfl, hno.out⟩, HBB.out.alloc (Nat.le_of_lt hlB) _⟩
      have f1 : decide (10 < cool) = false := decide_eq_false q1
      by_cases q2 : score < 0
      · have f2 : decide (score < 0) = true := decide_eq_true q2
        have hno := qh (show ¬ Gm.ok g from fun h => by have := (HO.out h).2.2.2.2.2.2.1; omega)
        clear HO HQ q0 q1 q2
        go_wp2_with (first | (go_at_call 104; first | ((with_reducible refine ((cx _).out).mono ?_); rintro e v1 ⟨rfl, rfl⟩) | ((with_reducible refine ((cy _).out).mono ?_); rintro e v1 ⟨rfl, rfl⟩)) | (go_at_call 105; first | ((with_reducible refine ((cvx _).out).mono ?_); rintro e v1 ⟨rfl, rfl⟩) | ((with_reducible refine ((cvy _).out).mono ?_); rintro e v1 ⟨rfl, rfl⟩)))
        go_ret
        exact ⟨by first | exact ⟨false, rfl, by simp; exact hno.out⟩ | exact .inl ⟨rfl, hno.out⟩, HBB.out.alloc (Nat.le_of_lt hlB) _⟩
      have f2 : decide (score < 0) = false := decide_eq_false q2
      by_cases q3 : 1073741824 < score
      · have f3 : decide (1073741824 < score) = true := decide_eq_true q3
        have hno := qh (show ¬ Gm.ok g from fun h => by have := (HO.out h).2.2.2.2.2.2.2; omega)
        clear HO HQ q0 q1 q2 q3
        go_wp2_with (first | (go_at_call 104; first | ((with_reducible refine ((cx _).out).mono ?_); rintro e v1 ⟨rfl, rfl⟩) | ((with_reducible refine ((cy _).out).mono ?_); rintro e v1 ⟨rfl, rfl⟩)) | (go_at_call 105; first | ((with_reducible refine ((cvx _).out).mono ?_); rintro e v1 ⟨rfl, rfl⟩) | ((with_reducible refine ((cvy _).out).mono ?_); rintro e v1 ⟨rfl, rfl⟩)))
        go_ret
        exact ⟨by first | exact ⟨false, rfl, by simp; exact hno.out⟩ | exact .inl ⟨rfl, hno.out⟩, HBB.out.alloc (Nat.le_of_lt hlB) _⟩
      have f3 : decide (1073741824 < score) = false := decide_eq_false q3
      have ho := qh (HQ.out ⟨rfl, rfl, rfl, rfl, by omega, by omega, by omega, by omega⟩)
      clear HO HQ q0 q1 q2 q3
      go_wp2_with (first | (go_at_call 104; first | ((with_reducible refine ((cx _).out).mono ?_); rintro e v1 ⟨rfl, rfl⟩) | ((with_reducible refine ((cy _).out).mono ?_); rintro e v1 ⟨rfl, rfl⟩)) | (go_at_call 105; first | ((with_reducible refine ((cvx _).out).mono ?_); rintro e v1 ⟨rfl, rfl⟩) | ((with_reducible refine ((cvy _).out).mono ?_); rintro e v1 ⟨rfl, rfl⟩)))
      go_roundw
      case rel => exact ⟨k + 1, by omega, by go_num, HB.out.alloc _, HBB.out.alloc (Nat.le_of_lt hlB) _, ho.out⟩
      case measure => simp [intOf]; omega
  · have hk8 : ¬ (k : Int) < 8 := by omega
    have HA8 := qh (show ∀ j, j < 8 -> Gm.qaX (g.ship j) from fun j hj => HALL.out j (by omega))
    have hcr := hB.cell
    have hlB := hB.lt
    clear hc hships h0 d1 d2 d3 HALL
    go_wp2
    go_loopw [5] (fun i wr => ∃ k : Nat, k <= n /\ i = .int .i64 k /\ Box wr w.heap.size 31 (Gm.cells g (.slice A n c)) /\ Below w.heap.size w wr /\ ∀ j (hj : j < g.qaa.length), j < k -> Gm.qa7 (g.qaa[j]'hj)) (fun i _ => n - (intOf i).toNat)
    case atStart => exact ⟨0, by omega, rfl, hB, hb, fun j _ hj => absurd hj (Nat.not_lt_zero j)⟩
    case round =>
     obtain ⟨m, hm, rfl, hB, hb, hall⟩ := hrel
     have HALL := qh hall
     clear hcr hlB hall
     have hcr := hB.cell
     have hlB := hB.lt
     by_cases hlt : m < n
     · have hml : m < g.qaa.length := by have := hN.out; omega
       obtain ⟨ad, rfl, hbl, e0, e1, e2, e3, e4, e5⟩ := qd0 (hr.below hb) hN.out m hml
       have ty := hshots m hml
       have HS := qh (show Gm.ok g -> Gm.qa7 (g.qaa[m]'hml) from fun h => h.2.2.2.2 m hml)
       have HZ := qh (show Gm.qa7 (g.qaa[m]'hml) -> ∀ j (hj : j < g.qaa.length), j < m + 1 -> Gm.qa7 (g.qaa[j]'hj) from fun h j hjl hj => by
        by_cases e : j = m
        · subst e; exact h
        · exact HALL.out j hjl (by omega))
       generalize g.qaa[m]'hml = s at e0 e1 e2 e3 e4 e5 ty HS HZ
       obtain ⟨owner, x, y, vx, vy, left⟩ := s
       dsimp only at e0 e1 e2 e3 e4 e5
       obtain ⟨to_, tx, ty, tvx, tvy, tl⟩ := ty
       unfold Gm.i32 Gm.i64 at *
       dsimp only at to_ tx ty tvx tvy tl
       have hmn : (m : Int) < n := by omega
       have HB := qh hB
       have HBB := qh hb
       clear hr hshots hb hB
       have cx := fun X => qh (qeG x tx X)
       have cy := fun X => qh (qeG y ty X)
       have cvx := fun X => qh (qdz vx 393216 tvx (by omega) X)
       have cvy := fun X => qh (qdz vy 393216 tvy (by omega) X)
       obtain ⟨bx, hx⟩ : ∃ b, b = (decide (0 <= x) && decide (x < 16777216)) := ⟨_, rfl⟩
       obtain ⟨b_y, hy⟩ : ∃ b, b = (decide (0 <= y) && decide (y < 16777216)) := ⟨_, rfl⟩
       obtain ⟨bvx, hvx⟩ : ∃ b, b = (decide (-393216 <= vx) && decide (vx <= 393216)) := ⟨_, rfl⟩
       obtain ⟨bvy, hvy⟩ : ∃ b, b = (decide (-393216 <= vy) && decide (vy <= 393216)) := ⟨_, rfl⟩
       rw [<- hx] at cx; rw [<- hy] at cy; rw [<- hvx] at cvx; rw [<- hvy] at cvy
       have HX := qh (show bx = true ↔ Gm.inF x by rw [hx]; unfold Gm.inF; simp)
       have HY := qh (show b_y = true ↔ Gm.inF y by rw [hy]; unfold Gm.inF; simp)
       have HVX := qh (show bvx = true ↔ Gm.slow vx 393216 by rw [hvx]; unfold Gm.slow; simp)
       have HVY := qh (show bvy = true ↔ Gm.slow vy 393216 by rw [hvy]; unfold Gm.slow; simp)
       have HO := qh (show Gm.ok g -> bx = true /\ b_y = true /\ bvx = true /\ bvy = true /\ 0 <= owner /\ owner < 8 /\ 1 <= left /\ left <= 24 from fun h => by obtain ⟨h5, h6, h1, h2, h3, h4, h7, h8⟩ := HS.out h; exact ⟨HX.out.2 h1, HY.out.2 h2, HVX.out.2 h3, HVY.out.2 h4, h5, h6, h7, h8⟩)
       have HQ := qh (show (bx = true /\ b_y = true /\ bvx = true /\ bvy = true /\ 0 <= owner /\ owner < 8 /\ 1 <= left /\ left <= 24) -> ∀ j (hj : j < g.qaa.length), j < m + 1 -> Gm.qa7 (g.qaa[j]'hj) from fun ⟨h1, h2, h3, h4, h5, h6, h7, h8⟩ => HZ.out ⟨h5, h6, HX.out.1 h1, HY.out.1 h2, HVX.out.1 h3, HVY.out.1 h4, h7, h8⟩)
       clear hx hy hvx hvy HX HY HVX HVY HS HZ tx ty tvx tvy to_ tl
       by_cases q0 : owner < 0
       · have f0 : decide (owner < 0) = true := decide_eq_true q0
         have hno := qh (show ¬ Gm.ok g from fun h => by have := (HO.out h).2.2.2.2.1; omega)
         clear HO HQ q0
         go_wp2_with (first | (go_at_call 104; first | ((with_reducible refine ((cx _).out).mono ?_); rintro e v1 ⟨rfl, rfl⟩) | ((with_reducible refine ((cy _).out).mono ?_); rintro e v1 ⟨rfl, rfl⟩)) | (go_at_call 105; first | ((with_reducible refine ((cvx _).out).mono ?_); rintro e v1 ⟨rfl, rfl⟩) | ((with_reducible refine ((cvy _).out).mono ?_); rintro e v1 ⟨rfl, rfl⟩)))
         go_ret
         exact ⟨by first | exact ⟨false, rfl, by simp; exact hno.out⟩ | exact .inl ⟨rfl, hno.out⟩, HBB.out.alloc (Nat.le_of_lt hlB) _⟩
       have f0 : decide (owner < 0) = false := decide_eq_false q0
       by_cases q1 : 8 <= owner
       · have f1 : decide (8 <= owner) = true := decide_eq_true q1
         have hno := qh (show ¬ Gm.ok g from fun h => by have := (HO.out h).2.2.2.2.2.1; omega)
         clear HO HQ q0 q1
         go_wp2_with (first | (go_at_call 104; first | ((with_reducible refine ((cx _).out).mono ?_); rintro e v1 ⟨rfl, rfl⟩) | ((with_reducible refine ((cy _).out).mono ?_); rintro e v1 ⟨rfl, rfl⟩)) | (go_at_call 105; first | ((with_reducible refine ((cvx _).out).mono ?_); rintro e v1 ⟨rfl, rfl⟩) | ((with_reducible refine ((cvy _).out).mono ?_); rintro e v1 ⟨rfl, rfl⟩)))
         go_ret
         exact ⟨by first | exact ⟨false, rfl, by simp; exact hno.out⟩ | exact .inl ⟨rfl, hno.out⟩, HBB.out.alloc (Nat.le_of_lt hlB) _⟩
       have f1 : decide (8 <= owner) = false := decide_eq_false q1
       cases bx
       · have hno := qh (show ¬ Gm.ok g from fun h => by have := (HO.out h).1; simp at this)
         clear HO HQ q0 q1
         go_wp2_with (first | (go_at_call 104; first | ((with_reducible refine ((cx _).out).mono ?_); rintro e v1 ⟨rfl, rfl⟩) | ((with_reducible refine ((cy _).out).mono ?_); rintro e v1 ⟨rfl, rfl⟩)) | (go_at_call 105; first | ((with_reducible refine ((cvx _).out).mono ?_); rintro e v1 ⟨rfl, rfl⟩) | ((with_reducible refine ((cvy _).out).mono ?_); rintro e v1 ⟨rfl, rfl⟩)))
         go_ret
         exact ⟨by first | exact ⟨false, rfl, by simp; exact hno.out⟩ | exact .inl ⟨rfl, hno.out⟩, HBB.out.alloc (Nat.le_of_lt hlB) _⟩
       cases b_y
       · have hno := qh (show ¬ Gm.ok g from fun h => by have := (HO.out h).2.1; simp at this)
         clear HO HQ q0 q1
         go_wp2_with (first | (go_at_call 104; first | ((with_reducible refine ((cx _).out).mono ?_); rintro e v1 ⟨rfl, rfl⟩) | ((with_reducible refine ((cy _).out).mono ?_); rintro e v1 ⟨rfl, rfl⟩)) | (go_at_call 105; first | ((with_reducible refine ((cvx _).out).mono ?_); rintro e v1 ⟨rfl, rfl⟩) | ((with_reducible refine ((cvy _).out).mono ?_); rintro e v1 ⟨rfl, rfl⟩)))
         go_ret
         exact ⟨by first | exact ⟨false, rfl, by simp; exact hno.out⟩ | exact .inl ⟨rfl, hno.out⟩, HBB.out.alloc (Nat.le_of_lt hlB) _⟩
       cases bvx
       · have hno := qh (show ¬ Gm.ok g from fun h => by have := (HO.out h).2.2.1; simp at this)
         clear HO HQ q0 q1
         go_wp2_with (first | (go_at_call 104; first | ((with_reducible refine ((cx _).out).mono ?_); rintro e v1 ⟨rfl, rfl⟩) | ((with_reducible refine ((cy _).out).mono ?_); rintro e v1 ⟨rfl, rfl⟩)) | (go_at_call 105; first | ((with_reducible refine ((cvx _).out).mono ?_); rintro e v1 ⟨rfl, rfl⟩) | ((with_reducible refine ((cvy _).out).mono ?_); rintro e v1 ⟨rfl, rfl⟩)))
         go_ret
         exact ⟨by first | exact ⟨false, rfl, by simp; exact hno.out⟩ | exact .inl ⟨rfl, hno.out⟩, HBB.out.alloc (Nat.le_of_lt hlB) _⟩
       cases bvy
       · have hno := qh (show ¬ Gm.ok g from fun h => by have := (HO.out h).2.2.2.1; simp at this)
         clear HO HQ q0 q1
         go_wp2_with (first | (go_at_call 104; first | ((with_reducible refine ((cx _).out).mono ?_); rintro e v1 ⟨rfl, rfl⟩) | ((with_reducible refine ((cy _).out).mono ?_); rintro e v1 ⟨rfl, rfl⟩)) | (go_at_call 105; first | ((with_reducible refine ((cvx _).out).mono ?_); rintro e v1 ⟨rfl, rfl⟩) | ((with_reducible refine ((cvy _).out).mono ?_); rintro e v1 ⟨rfl, rfl⟩)))
         go_ret
         exact ⟨by first | exact ⟨false, rfl, by simp; exact hno.out⟩ | exact .inl ⟨rfl, hno.out⟩, HBB.out.alloc (Nat.le_of_lt hlB) _⟩
       by_cases q2 : left < 1
       · have f2 : decide (left < 1) = true := decide_eq_true q2
         have hno := qh (show ¬ Gm.ok g from fun h => by have := (HO.out h).2.2.2.2.2.2.1; omega)
         clear HO HQ q0 q1 q2
         go_wp2_with (first | (go_at_call 104; first | ((with_reducible refine ((cx _).out).mono ?_); rintro e v1 ⟨rfl, rfl⟩) | ((with_reducible refine ((cy _).out).mono ?_); rintro e v1 ⟨rfl, rfl⟩)) | (go_at_call 105; first | ((with_reducible refine ((cvx _).out).mono ?_); rintro e v1 ⟨rfl, rfl⟩) | ((with_reducible refine ((cvy _).out).mono ?_); rintro e v1 ⟨rfl, rfl⟩)))
         go_ret
         exact ⟨by first | exact ⟨false, rfl, by simp; exact hno.out⟩ | exact .inl ⟨rfl, hno.out⟩, HBB.out.alloc (Nat.le_of_lt hlB) _⟩
       have f2 : decide (left < 1) = false := decide_eq_false q2
       by_cases q3 : 24 < left
       · have f3 : decide (24 < left) = true := decide_eq_true q3
         have hno := qh (show ¬ Gm.ok g from fun h => by have := (HO.out h).2.2.2.2.2.2.2; omega)
         clear HO HQ q0 q1 q2 q3
         go_wp2_with (first | (go_at_call 104; first | ((with_reducible refine ((cx _).out).mono ?_); rintro e v1 ⟨rfl, rfl⟩) | ((with_reducible refine ((cy _).out).mono ?_); rintro e v1 ⟨rfl, rfl⟩)) | (go_at_call 105; first | ((with_reducible refine ((cvx _).out).mono ?_); rintro e v1 ⟨rfl, rfl⟩) | ((with_reducible refine ((cvy _).out).mono ?_); rintro e v1 ⟨rfl, rfl⟩)))
         go_ret
         exact ⟨by first | exact ⟨false, rfl, by simp; exact hno.out⟩ | exact .inl ⟨rfl, hno.out⟩, HBB.out.alloc (Nat.le_of_lt hlB) _⟩
       have f3 : decide (24 < left) = false := decide_eq_false q3
       have ho := qh (HQ.out ⟨rfl, rfl, rfl, rfl, by omega, by omega, by omega, by omega⟩)
       clear HO HQ q0 q1 q2 q3
       go_wp2_with (first | (go_at_call 104; first | ((with_reducible refine ((cx _).out).mono ?_); rintro e v1 ⟨rfl, rfl⟩) | ((with_reducible refine ((cy _).out).mono ?_); rintro e v1 ⟨rfl, rfl⟩)) | (go_at_call 105; first | ((with_reducible refine ((cvx _).out).mono ?_); rintro e v1 ⟨rfl, rfl⟩) | ((with_reducible refine ((cvy _).out).mono ?_); rintro e v1 ⟨rfl, rfl⟩)))
       go_roundw
       case rel => exact ⟨m + 1, by omega, by go_num, HB.out.alloc _, HBB.out.alloc (Nat.le_of_lt hlB) _, ho.out⟩
       case measure => simp [intOf]; omega
     · have hmn : ¬ (m : Int) < n := by omega
       have hyes := qh (show Gm.ok g from ⟨HF.out.1, HF.out.2.1, HF.out.2.2, HA8.out, fun j hj => HALL.out j hj (by have := hN.out; omega)⟩)
       have HBB := qh hb
       clear hr hshots hb hB HALL
       go_wp2
       go_ret
       exact ⟨by first | exact ⟨true, rfl, by simp; exact hyes.out⟩ | exact .inr ⟨rfl, hyes.out⟩, HBB.out⟩
open Go.RowKit Go.Shelf
theorem qd6 (r : Ros.R) (w : World) :
 Calls Tryz.prog 67 #[.agg (Ros.cells r)] w fun e w' => (∃ v, e = .returned (.bool v) /\ (v = true ↔ Ros.Ok r)) /\ Below w.heap.size w w' := by
 have hc : ∀ W : World, ∀ j, (W.alloc (.cells (Ros.cells r) 36)).cell? ⟨W.heap.size, j, none⟩ = (Ros.cells r)[j]? := fun W j => (Box.made W _ _).cell j
 have h0 := Ros.qa1 r
 by_cases hv1 : r.version < 0
 · have d1 : decide (r.version < 0) = true := decide_eq_true hv1
   have hno := qh (show ¬ Ros.Ok r from fun h => by have := h.1; omega)
   clear hv1
   go_enter Tryz.func67, Tryz.ntmps67
   go_wp2
   go_ret
   exact ⟨by first | exact ⟨false, rfl, by simp; exact hno.out⟩ | exact .inl ⟨rfl, hno.out⟩, qac _ _⟩
 have d1 : decide (r.version < 0) = false := decide_eq_false hv1
 by_cases hv2 : 1073741824 < r.version
 · have d2 : decide (1073741824 < r.version) = true := decide_eq_true hv2
   have hno := qh (show ¬ Ros.Ok r from fun h => by have := h.1; omega)
   clear hv1 hv2
   go_enter Tryz.func67, Tryz.ntmps67
   go_wp2
   go_ret
   exact ⟨by first | exact ⟨false, rfl, by simp; exact hno.out⟩ | exact .inl ⟨rfl, hno.out⟩, qac _ _⟩
 have d2 : decide (1073741824 < r.version) = false := decide_eq_false hv2
 have HV := qh (show 0 <= r.version /\ r.version <= 1073741824 from ⟨by omega, by omega⟩)
 clear hv1 hv2
 go_enter Tryz.func67, Tryz.ntmps67
 go_wp2
 go_loopw [3] (fun i wr => ∃ k : Nat, k <= 8 /\ i = .int .i64 k /\ Box wr w.heap.size 36 (Ros.cells r) /\ Below w.heap.size w wr /\ (∀ j, j < k -> Ros.qfc r j) /\ ∀ j i, j < i -> i < k -> r.peer j = -1 \/ r.peer j ≠ r.peer i) (fun i _ => 8 - (intOf i).toNat)
 case atStart => exact ⟨0, by omega, rfl, Box.made _ _ _, qac _ _, fun j hj => absurd hj (Nat.not_lt_zero j), fun j i _ hi => absurd hi (Nat.not_lt_zero i)⟩
 case round =>
  obtain ⟨k, hk, rfl, hB, hb, hall, hp⟩ := hrel
  have HALL := qh hall
  have HP := qh hp
  clear hall hp d1 d2 h0 hc
  by_cases hlt : k < 8
  · have hk8 : (k : Int) < 8 := by omega
    have rc := hB.cell
    have hlB := hB.lt
    have rp := Ros.qaQ r k hlt
    have rg := Ros.qbs r k hlt
    have HS := qh (show Ros.Ok r -> (0 <= r.gen k /\ r.gen k <= 60000) /\ (r.peer k = -1 \/ ((0 <= r.peer k /\ r.peer k < 12) /\ 0 < r.gen k)) from fun h => h.seat k hlt)
    have HZ := qh (show (0 <= r.gen k /\ r.gen k <= 60000) /\ (r.peer k = -1 \/ ((0 <= r.peer k /\ r.peer k < 12) /\ 0 < r.gen k)) -> ∀ j, j < k + 1 -> Ros.qfc r j from fun h j hj => by
     by_cases e : j = k
     · rw [e]; exact h
     · exact HALL.out j (by omega))
    obtain ⟨p, hpk⟩ : ∃ p, p = r.peer k := ⟨_, rfl⟩
    obtain ⟨g, hgk⟩ : ∃ g, g = r.gen k := ⟨_, rfl⟩
    rw [<- hpk] at rp HS HZ
    rw [<- hgk] at rg HS HZ
    have HPK := qh hpk
    have HB := qh hB
    have HBB := qh hb
    clear hpk hgk hB hb HALL
    by_cases q0 : p < -1
    · have f0 : decide (p < -1) = true := decide_eq_true q0
      have hno := qh (show ¬ Ros.Ok r from fun h => by have := HS.out h; omega)
      clear HS HZ q0
      go_wp2
      go_ret
      exact ⟨by first | exact ⟨false, rfl, by simp; exact hno.out⟩ | exact .inl ⟨rfl, hno.out⟩, HBB.out.alloc (Nat.le_of_lt hlB) _⟩
    have f0 : decide (p < -1) = false := decide_eq_false q0
    by_cases q1 : 12 <= p
    · have f1 : decide (12 <= p) = true := decide_eq_true q1
      have hno := qh (show ¬ Ros.Ok r from fun h => by have := HS.out h; omega)
      clear HS HZ q0 q1
      go_wp2
      go_ret
      exact ⟨by first | exact ⟨false, rfl, by simp; exact hno.out⟩ | exact .inl ⟨rfl, hno.out⟩, HBB.out.alloc (Nat.le_of_lt hlB) _⟩
    have f1 : decide (12 <= p) = false := decide_eq_false q1
    by_cases q2 : g < 0
    · have f2 : decide (g < 0) = true := decide_eq_true q2
      have hno := qh (show ¬ Ros.Ok r from fun h => by have := HS.out h; omega)
      clear HS HZ q0 q1 q2
      go_wp2
      go_ret
      exact ⟨by first | exact ⟨false, rfl, by simp; exact hno.out⟩ | exact .inl ⟨rfl, hno.out⟩, HBB.out.alloc (Nat.le_of_lt hlB) _⟩
    have f2 : decide (g < 0) = false := decide_eq_false q2
    by_cases q3 : 60000 < g
    · have f3 : decide (60000 < g) = true := decide_eq_true q3
      have hno := qh (show ¬ Ros.Ok r from fun h => by have := HS.out h; omega)
      clear HS HZ q0 q1 q2 q3
      go_wp2
      go_ret
      exact ⟨by first | exact ⟨false, rfl, by simp; exact hno.out⟩ | exact .inl ⟨rfl, hno.out⟩, HBB.out.alloc (Nat.le_of_lt hlB) _⟩
    have f3 : decide (60000 < g) = false := decide_eq_false q3
    by_cases q4 : 0 <= p
    · have f4 : decide (0 <= p) = true := decide_eq_true q4
      by_cases q5 : g < 1
      · have f5 : decide (g < 1) = true := decide_eq_true q5
        have hno := qh (show ¬ Ros.Ok r from fun h => by have := HS.out h; omega)
        clear HS HZ q0 q1 q2 q3 q4 q5
        go_wp2
        go_ret
        exact ⟨by first | exact ⟨false, rfl, by simp; exact hno.out⟩ | exact .inl ⟨rfl, hno.out⟩, HBB.out.alloc (Nat.le_of_lt hlB) _⟩
      have f5 : decide (g < 1) = false := decide_eq_false q5
      have hnew := qh (HZ.out (by omega))
      clear HS HZ q0 q1 q2 q3 q5
      go_wp2
      go_loopw [5] (fun i wr2 => ∃ m : Nat, m <= k /\ i = .int .i64 m /\ Box wr2 w.heap.size 36 (Ros.cells r) /\ Box wr2 wr.heap.size 33 #[.int .i64 p, .int .i64 g] /\ Below w.heap.size w wr2 /\ ∀ j, j < m -> r.peer j = -1 \/ r.peer j ≠ p) (fun i _ => k - (intOf i).toNat)
      case atStart => exact ⟨0, by omega, rfl, HB.out.alloc _, Box.made _ _ _, HBB.out.alloc (Nat.le_of_lt hlB) _, fun j hj => absurd hj (Nat.not_lt_zero j)⟩
      case round =>
       obtain ⟨m, hm, rfl, hB2, hS2, hb2, hall2⟩ := hrel
       have HALL2 := qh hall2
       clear hall2 rc rp rg
       by_cases hmk : m < k
       · have hm8 : m < 8 := by omega
         have hm8' : (m : Int) < 8 := by omega
         have hmk' : (m : Int) < k := by omega
         have rc := hB2.cell
         have sc := hS2.cell
         have rp := Ros.qaQ r m hm8
         have s0 : (#[.int .i64 p, .int .i64 g] : Array Value)[0]? = some (.int .i64 p) := rfl
         obtain ⟨q, hq⟩ : ∃ q, q = r.peer m := ⟨_, rfl⟩
         rw [<- hq] at rp
         have HB2 := qh hB2
         have HS2 := qh hS2
         have HBB2 := qh hb2
         by_cases hqp : q = p
         · have hqe : (q == p) = true := by simpa using hqp
           have hno := qh (show ¬ Ros.Ok r from fun h => by
            have := (Ros.qgP.1 h).2.2 m k hmk hlt
            rw [<- hq, <- HPK.out] at this
            omega)
           clear hq hqp hB2 hS2 hb2 q4
           go_upto_region 12 with fail
           go_quiet (fail)
           go_wp2
           go_ret
           exact ⟨by first | exact ⟨false, rfl, by simp; exact hno.out⟩ | exact .inl ⟨rfl, hno.out⟩, qaA HBB2.out _⟩
         have hqe : (q == p) = false := by simpa using hqp
         have hn2 := qh (show ∀ j, j < m + 1 -> r.peer j = -1 \/ r.peer j ≠ p from fun j hj => by
          by_cases e : j = m
          · rw [e, <- hq]; exact .inr hqp
          · exact HALL2.out j (by omega))
         clear hq hB2 hS2 hb2 hqp q4
         go_upto_region 12 with fail
         go_quiet (fail)
         go_wp2
         go_roundw
         case rel => exact ⟨m + 1, by omega, by go_num, HB2.out.draws _, HS2.out.draws _, qaA HBB2.out _, hn2.out⟩
         case measure => simp [intOf]; omega
       · have hmk' : ¬ (m : Int) < k := by omega
         have HB2 := qh hB2
         have HBB2 := qh hb2
         have hall3 := qh (show ∀ j i, j < i -> i < k + 1 -> r.peer j = -1 \/ r.peer j ≠ r.peer i from fun j i hji hi => by
          by_cases e : i = k
          · rw [e, <- HPK.out]; exact HALL2.out j (by omega)
          · exact HP.out j i hji (by omega))
         clear hB2 hS2 hb2
         go_wp2
         go_roundw
         case rel => exact ⟨k + 1, by omega, by go_num, HB2.out, HBB2.out, hnew.out, hall3.out⟩
         case measure => simp [intOf]; omega
    · have f4 : decide (0 <= p) = false := decide_eq_false q4
      have hpm := qh (show p = -1 by omega)
      have hnew := qh (HZ.out (by omega))
      clear HS HZ q0 q1 q2 q3 
      go_wp2
      go_loopw [5] (fun i wr2 => ∃ m : Nat, m <= k /\ i = .int .i64 m /\ Box wr2 w.heap.size 36 (Ros.cells r) /\ Box wr2 wr.heap.size 33 #[.int .i64 p, .int .i64 g] /\ Below w.heap.size w wr2 /\ ∀ j, j < m -> r.peer j = -1 \/ r.peer j ≠ p) (fun i _ => k - (intOf i).toNat)
      case atStart => exact ⟨0, by omega, rfl, HB.out.alloc _, Box.made _ _ _, HBB.out.alloc (Nat.le_of_lt hlB) _, fun j hj => absurd hj (Nat.not_lt_zero j)⟩
      case round =>
       obtain ⟨m, hm, rfl, hB2, hS2, hb2, hall2⟩ := hrel
       have HALL2 := qh hall2
       clear hall2 rc rp rg
       by_cases hmk : m < k
       · have hm8 : m < 8 := by omega
         have hm8' : (m : Int) < 8 := by omega
         have hmk' : (m : Int) < k := by omega
         have rc := hB2.cell
         have sc := hS2.cell
         have rp := Ros.qaQ r m hm8
         have s0 : (#[.int .i64 p, .int .i64 g] : Array Value)[0]? = some (.int .i64 p) := rfl
         obtain ⟨q, hq⟩ : ∃ q, q = r.peer m := ⟨_, rfl⟩
         rw [<- hq] at rp
         have HB2 := qh hB2
         have HS2 := qh hS2
         have HBB2 := qh hb2
         have hn2 := qh (show ∀ j, j < m + 1 -> r.peer j = -1 \/ r.peer j ≠ p from fun j hj => by
          by_cases e : j = m
          · rw [e, <- hq]; first | (by_cases e2 : q = -1; exact .inl e2; exact .inr (fun e3 => e2 (by have := hpm.out; omega)))
          · exact HALL2.out j (by omega))
         clear hq hB2 hS2 hb2 q4
         go_upto_region 12 with fail
         go_quiet (fail)
         go_wp2
         go_roundw
         case rel => exact ⟨m + 1, by omega, by go_num, HB2.out.draws _, HS2.out.draws _, qaA HBB2.out _, hn2.out⟩
         case measure => simp [intOf]; omega
       · have hmk' : ¬ (m : Int) < k := by omega
         have HB2 := qh hB2
         have HBB2 := qh hb2
         have hall3 := qh (show ∀ j i, j < i -> i < k + 1 -> r.peer j = -1 \/ r.peer j ≠ r.peer i from fun j i hji hi => by
          by_cases e : i = k
          · rw [e, <- HPK.out]; exact HALL2.out j (by omega)
          · exact HP.out j i hji (by omega))
         clear hB2 hS2 hb2
         go_wp2
         go_roundw
         case rel => exact ⟨k + 1, by omega, by go_num, HB2.out, HBB2.out, hnew.out, hall3.out⟩
         case measure => simp [intOf]; omega
  · have hk8 : ¬ (k : Int) < 8 := by omega
    have hyes := qh (show Ros.Ok r from Ros.qgP.2 ⟨HV.out, fun j hj => HALL.out j (by omega), fun j i hji hi => HP.out j i hji (by omega)⟩)
    have HBB := qh hb
    clear hB hb
    go_wp2
    go_ret
    exact ⟨by first | exact ⟨true, rfl, by simp; exact hyes.out⟩ | exact .inr ⟨rfl, hyes.out⟩, HBB.out⟩
theorem qjp (g : Gm.G) (r : Ros.R) (A : Option Addr) (n c : Nat) (w : World) (hty : Gm.ty g) (hn : n = g.qaa.length) (hn63 : n <= maxLen) (hr : Lies w w.heap.size 6 A n (Gm.qad g.qaa)) :
 Calls Tryz.prog 31 #[.agg (Im.cells g (.slice A n c) r)] w fun e w' => (∃ v, e = .returned (.bool v) /\ (v = true ↔ Im.Ok g r)) /\ Below w.heap.size w w' := by
 have P0 := qh (Box.made w 38 (Im.cells g (.slice A n c) r))
 have K0 := qh (qac w (.cells (Im.cells g (.slice A n c) r) 38))
 have HQ := qh ((hr.below K0.out).wider K0.out.size)
 have cg := fun X hX => qh (qmt g A n c X hty hn hn63 hX)
 have cr := fun X => qh (qd6 r X)
 clear hr hn hty hn63
 by_cases hg : Gm.ok g
 · have HG := qh hg
   by_cases hok : Ros.Ok r
   · have HR := qh hok
     clear hg hok
     go_enter Tryz.func31, Tryz.ntmps31
     go_wp2_with (first | ((with_reducible refine qbb rfl rfl ?_); apply qaC.mk rfl; (focus (with_reducible exact P0.out)); dsimp only) | ((with_reducible refine qbV ?_ rfl ?_); (focus first | rfl | kernel_rfl | simp [Region.wanted, yielded]); apply qaC.mk rfl; (focus (with_reducible exact P1.out)); dsimp only) | (go_at_call 66; ((with_reducible refine ((cg _ HQ.out).out).mono ?_); rintro e w1 ⟨⟨v1, rfl, hv1⟩, hb⟩; obtain rfl : v1 = true := hv1.2 HG.out; have P1 := qh (P0.out.below hb P0.out.lt); have K1 := qh (K0.out.trans (hb.mono K0.out.size)); clear hb hv1)) | (go_at_call 67; ((with_reducible refine ((cr _).out).mono ?_); rintro e w2 ⟨⟨v2, rfl, hv2⟩, hb⟩; obtain rfl : v2 = true := hv2.2 HR.out; have P2 := qh (P1.out.below hb P1.out.lt); have K2 := qh (K1.out.trans (hb.mono K1.out.size)); clear hb hv2)))
     go_loopw [3] (fun i wr => ∃ k : Nat, k <= 8 /\ i = .int .i64 k /\ Box wr w.heap.size 38 (Im.cells g (.slice A n c) r) /\ Below w.heap.size w wr /\ ∀ j, j < k -> (g.ship j).on = decide (0 <= r.peer j)) (fun i _ => 8 - (intOf i).toNat)
     case atStart => exact ⟨0, by omega, rfl, P2.out, K2.out, fun j hj => absurd hj (Nat.not_lt_zero j)⟩
     case round =>
      obtain ⟨k, hk, rfl, hB, hb, hall⟩ := hrel
      clear P0 K0 P1 K1 P2 K2 HQ cg cr
      by_cases hlt : k < 8
      · have hk8 : (k : Int) < 8 := by omega
        have e0 : wr.cell? ⟨w.heap.size, 2 + k * 7, none⟩ = some (.bool (g.ship k).on) := (hB.cell _).trans ((Im.qae g _ r k 0 hlt (by omega)).trans rfl)
        have e1 : wr.cell? ⟨w.heap.size, 60 + k * 2, none⟩ = some (.int .i64 (r.peer k)) := (hB.cell _).trans (by
         have := Im.qez g (.slice A n c) r (1 + k * 2)
         rw [show 60 + k * 2 = 59 + (1 + k * 2) by omega]
         exact this.trans (Ros.qaQ r k hlt))
        obtain ⟨on, hon⟩ : ∃ on, on = (g.ship k).on := ⟨_, rfl⟩
        obtain ⟨pk, hpk⟩ : ∃ pk, pk = r.peer k := ⟨_, rfl⟩
        rw [<- hon] at e0
        rw [<- hpk] at e1
        have HON := qh hon
        have HPK := qh hpk
        have HALL := qh hall
        have HB := qh hB
        have HBB := qh hb
        clear hon hpk hall hB hb
        by_cases hm : on = decide (0 <= pk)
        · have hnew := qh (show ∀ j, j < k + 1 -> (g.ship j).on = decide (0 <= r.peer j) from fun j hj => by
           by_cases e : j = k
           · rw [e, <- HON.out, <- HPK.out]; exact hm
           · exact HALL.out j (by omega))
          cases hd : decide (0 <= pk)
          · rw [hd] at hm
            subst hm
            go_upto_region 6 with fail
            go_quiet (fail)
            go_wp2
            go_roundw
            case rel => exact ⟨k + 1, by omega, by go_num, HB.out.draws _, qaA HBB.out _, hnew.out⟩
            case measure => simp [intOf]; omega
          · rw [hd] at hm
            subst hm
            go_upto_region 6 with fail
            go_quiet (fail)
            go_wp2
            go_roundw
            case rel => exact ⟨k + 1, by omega, by go_num, HB.out.draws _, qaA HBB.out _, hnew.out⟩
            case measure => simp [intOf]; omega
        · have hno := qh (show ¬ Im.Ok g r from fun h => hm (by rw [HON.out, HPK.out]; exact h.2.2 k hlt))
          cases hd : decide (0 <= pk)
          · obtain rfl : on = true := by
             cases on
             · exact absurd hd.symm hm
             · rfl
            clear hm
            go_upto_region 6 with fail
            go_quiet (fail)
            go_wp2
            go_ret
            exact ⟨by first | exact ⟨false, rfl, by simp; exact hno.out⟩ | exact .inl ⟨rfl, hno.out⟩, qaA HBB.out _⟩
          · obtain rfl : on = false := by
             cases on
             · rfl
             · exact absurd hd.symm hm
            clear hm
            go_upto_region 6 with fail
            go_quiet (fail)
            go_wp2
            go_ret
            exact ⟨by first | exact ⟨false, rfl, by simp; exact hno.out⟩ | exact .inl ⟨rfl, hno.out⟩, qaA HBB.out _⟩
      · have hk8 : ¬ (k : Int) < 8 := by omega
        have hyes := qh (show Im.Ok g r from ⟨HG.out, HR.out, fun j hj => hall j (by omega)⟩)
        have HBB := qh hb
        clear hall hB hb
        go_wp2
        go_ret
        exact ⟨by first | exact ⟨true, rfl, by simp; exact hyes.out⟩ | exact .inr ⟨rfl, hyes.out⟩, HBB.out⟩
   · have HR := qh hok
     have hno := qh (show ¬ Im.Ok g r from fun h => hok h.2.1)
     clear hg hok
     go_enter Tryz.func31, Tryz.ntmps31
     go_wp2_with (first | ((with_reducible refine qbb rfl rfl ?_); apply qaC.mk rfl; (focus (with_reducible exact P0.out)); dsimp only) | ((with_reducible refine qbV ?_ rfl ?_); (focus first | rfl | kernel_rfl | simp [Region.wanted, yielded]); apply qaC.mk rfl; (focus (with_reducible exact P1.out)); dsimp only) | (go_at_call 66; ((with_reducible refine ((cg _ HQ.out).out).mono ?_); rintro e w1 ⟨⟨v1, rfl, hv1⟩, hb⟩; obtain rfl : v1 = true := hv1.2 HG.out; have P1 := qh (P0.out.below hb P0.out.lt); have K1 := qh (K0.out.trans (hb.mono K0.out.size)); clear hb hv1)) | (go_at_call 67; ((with_reducible refine ((cr _).out).mono ?_); rintro e w2 ⟨⟨v2, rfl, hv2⟩, hb⟩; obtain rfl : v2 = false := (by cases v2 <;> first | rfl | exact absurd (hv2.1 rfl) HR.out); have P2 := qh (P1.out.below hb P1.out.lt); have K2 := qh (K1.out.trans (hb.mono K1.out.size)); clear hb hv2)))
     go_ret
     exact ⟨by first | exact ⟨false, rfl, by simp; exact hno.out⟩ | exact .inl ⟨rfl, hno.out⟩, K2.out⟩
 · have HG := qh hg
   have hno := qh (show ¬ Im.Ok g r from fun h => hg h.1)
   have HR := qh True.intro
   clear hg
   go_enter Tryz.func31, Tryz.ntmps31
   go_wp2_with (first | ((with_reducible refine qbb rfl rfl ?_); apply qaC.mk rfl; (focus (with_reducible exact P0.out)); dsimp only) | ((with_reducible refine qbV ?_ rfl ?_); (focus first | rfl | kernel_rfl | simp [Region.wanted, yielded]); apply qaC.mk rfl; (focus (with_reducible exact P1.out)); dsimp only) | (go_at_call 66; ((with_reducible refine ((cg _ HQ.out).out).mono ?_); rintro e w1 ⟨⟨v1, rfl, hv1⟩, hb⟩; obtain rfl : v1 = false := (by cases v1 <;> first | rfl | exact absurd (hv1.1 rfl) HG.out); have P1 := qh (P0.out.below hb P0.out.lt); have K1 := qh (K0.out.trans (hb.mono K0.out.size)); clear hb hv1)) | (go_at_call 67; ((with_reducible refine ((cr _).out).mono ?_); rintro e w2 ⟨⟨v2, rfl, hv2⟩, hb⟩; obtain rfl : v2 = false := (by cases v2 <;> first | rfl | exact absurd (hv2.1 rfl) HR.out); have P2 := qh (P1.out.below hb P1.out.lt); have K2 := qh (K1.out.trans (hb.mono K1.out.size)); clear hb hv2)))
   go_ret
   exact ⟨by first | exact ⟨false, rfl, by simp; exact hno.out⟩ | exact .inl ⟨rfl, hno.out⟩, K1.out⟩
theorem qoL (Bb Bc : Nat) (u : TypeId) (pv : Value) (older : List PanicEntry) (w : World) (x : Value) (hb : Box w Bb 165 #[x]) (y : Int) (hc : Box w Bc 3 #[.int .i64 y]) :
 CallsD Tryz.prog 140 #[.pointer (some ⟨Bb, 0, none⟩), .pointer (some ⟨Bc, 0, none⟩)] (.panicking ({ v := .iface u pv, recovered := false } :: older)) w fun e u' w' =>
  e = .returned (.tuple #[]) /\ u' = .panicking ({ v := .iface u pv, recovered := true } :: older) /\ w' = (w.setCell ⟨Bb, 0, none⟩ (.slice none 0 0)).setCell ⟨Bc, 0, none⟩ (.int .i64 1) := by
 have ne : Bb ≠ Bc := Box.apart hb hc (by decide)
 have c1 := hb.cell 0
 have f1 := hb.free 0
 have c2 := hc.cell 0
 have f2 := hc.free 0
 refine callsD_of_wpS Tryz.func140 rfl fun c₀ cs hu => ?_
 apply wpS_seq
 apply wpS_region
 simp [wpOpsS, go_sem, recoverD, hu, Tryz.ntmps140, Exit.thenS]
 refine wpS_cond (t := true) (by simp [Act.eval, Array.replicate]) ?_
 simp only [if_true]
 apply wpS_region
 have c2' : (w.setCell ⟨Bb, 0, none⟩ (.slice none 0 0)).cell? ⟨Bc, 0, none⟩ = some (.int .i64 y) := (hc.far (p := ⟨Bb, 0, none⟩) (fun e => ne e.symm) _).cell 0
 have f2' : (w.setCell ⟨Bb, 0, none⟩ (.slice none 0 0)).frozen? ⟨Bc, 0, none⟩ = false := (hc.far (p := ⟨Bb, 0, none⟩) (fun e => ne e.symm) _).free 0
 simp [wpOpsS, go_sem, c1, f1, c2', f2', bodyPostS, results, Tryz.results140]
theorem qhz (p q : Addr) (w : World) :
 CallsD Tryz.prog 140 #[.pointer (some p), .pointer (some q)] .returning w fun e u' w' => e = .returned (.tuple #[]) /\ u' = .returning /\ w' = w := by
 refine callsD_of_wpS Tryz.func140 rfl fun c₀ cs hu => ?_
 apply wpS_seq
 apply wpS_region
 simp [wpOpsS, go_sem, recoverD, hu, Tryz.ntmps140, Exit.thenS]
 refine wpS_cond (t := false) (by simp [Act.eval, Array.replicate]) ?_
 simp only [Bool.false_eq_true, if_false]
 refine wpS_of_wp (wp_skip ?_)
 cases c₀
 simp_all [bodyPostS, results, Tryz.results140]
section
variable {ops : Array Oper} {Q : Exit -> Act -> World -> Prop} {o : Oper} {rest : List Oper} {a : Act} {w : World} {x : Operand}
theorem qak (hgd : o.guard = none) (ho : o.op = .load 38 x) (h : qaC ops Q rest o.dst (a.eval x) 0 (fun g s r => Im.cells g s r) a w) : wpList Tryz.prog ops Q (o :: rest) a w := by
 obtain ⟨B, g, s, r, hx, hB, h⟩ := h
 refine qbH hgd ho hx hB (Im.cells g s r).toList (fun j v hv => ?_) Tryz.underlying38 rfl (by rw [Array.length_toList, Im.qaf]; exact qax) (by rw [Array.toArray_toList]; exact h)
 rw [Nat.zero_add]
 simpa using hv
end
theorem Im.qqH (g : Gm.G) (r : Ros.R) (h : g.qaa.length <= 32) : (Im.put g r).length <= 64000 := by
 have e1 := Im.qf3 g.ship 8
 have e2 := Im.qgu g.qaa
 have e3 := Im.qgz r 8
 unfold Im.put
 simp only [List.length_append, Im.qaw, e2, e3]
 omega
theorem qqG (g : Gm.G) (r : Ros.R) (A : Option Addr) (n c : Nat) (w : World) (hno : ¬ Im.Ok g r) (hty : Gm.ty g) (hn : n = g.qaa.length) (hn63 : n <= maxLen) (hr : Lies w w.heap.size 6 A n (Gm.qad g.qaa)) :
 Calls Tryz.prog 114 #[.agg (Im.cells g (.slice A n c) r)] w fun e w' => e = .returned (.tuple #[.slice none 0 0, .int .i64 1]) /\ Below w.heap.size w w' := by
 have hmf : ∀ (fn : Fn) (first cap : Array Value) (w : World), (Instr.makeFunc fn first cap).run Tryz.prog w = .ok (.func fn first cap) w := fun _ _ _ _ => rfl
 have P1 := qh (((Box.made w 38 (Im.cells g (.slice A n c) r)).alloc (.cells #[.slice none 0 0] 165)).alloc (.cells #[.int .i64 0] 3))
 have B1 := qh ((Box.qaq (n := w.heap.size + 1) (w.alloc (.cells (Im.cells g (.slice A n c) r) 38)) 165 #[.slice none 0 0] (by simp)).alloc (.cells #[.int .i64 0] 3))
 have C1 := qh (Box.qaq (n := w.heap.size + 1 + 1) ((w.alloc (.cells (Im.cells g (.slice A n c) r) 38)).alloc (.cells #[.slice none 0 0] 165)) 3 #[.int .i64 0] (by simp))
 have K1 := qh ((((Below.refl w.heap.size w).alloc (Nat.le_refl _) (.cells (Im.cells g (.slice A n c) r) 38)).alloc (by simp) (.cells #[.slice none 0 0] 165)).alloc (by simp <;> omega) (.cells #[.int .i64 0] 3))
 have hr1 := (hr.below K1.out).wider K1.out.size
 have cm := fun X hX => qh (qjS g r A n c X hty hn hn63 hX)
 have HR := qh hr1
 have HN := qh hno
 clear hr hr1 hn hty hno
 go_enter_defers Tryz.func114, Tryz.ntmps114
 go_wp2_with (first | ((with_reducible refine qak rfl rfl ?_); apply qaC.mk rfl; (focus (with_reducible exact P1.out)); dsimp only) | (go_at_call 142; ((with_reducible refine ((cm _ HR.out).out).mono ?_); rintro e w1 ⟨⟨v, rfl, hv⟩, hb⟩; obtain rfl : v = false := (by cases v <;> first | rfl | exact absurd (hv.1 rfl) HN.out); have C2 := qh (C1.out.below hb C1.out.lt); have B2 := qh (B1.out.below hb B1.out.lt); have K2 := qh (K1.out.trans (hb.mono K1.out.size)); clear hb hv)) | (go_at_call 141; ((with_reducible refine (qqj _ _).mono ?_); rintro e w2 ⟨rfl, rfl⟩)))
 refine leaves_cons (f := 140) (args := #[.pointer (some ⟨w.heap.size + 1, 0, none⟩), .pointer (some ⟨w.heap.size + 1 + 1, 0, none⟩)]) (by simp) (by simp [go_sem]) ?_
 refine (qoL (w.heap.size + 1) (w.heap.size + 1 + 1) _ _ [] _ _ B2.out _ C2.out).mono ?_
 have ne : w.heap.size + 1 ≠ w.heap.size + 1 + 1 := by omega
 have B4 := (B2.out.put 0 (.slice none 0 0)).far (p := ⟨w.heap.size + 1 + 1, 0, none⟩) ne (.int .i64 1)
 have C4 := (C2.out.far (p := ⟨w.heap.size + 1, 0, none⟩) (fun e => ne e.symm) (.slice none 0 0)).put 0 (.int .i64 1)
 have K4 := (K2.out.setCell (p := ⟨w.heap.size + 1, 0, none⟩) (Nat.le_succ _) (.slice none 0 0)).setCell (p := ⟨w.heap.size + 1 + 1, 0, none⟩) (by show w.heap.size <= w.heap.size + 1 + 1; omega) (.int .i64 1)
 have b4 := B4.cell 0
 have c4 := C4.cell 0
 simp at b4 c4
 rintro e u' w'' ⟨rfl, rfl, rfl⟩
 simp [Leaves, settle, results, Tryz.results114, go_sem, b4, c4]
 exact K4
theorem qqe (g : Gm.G) (r : Ros.R) (A : Option Addr) (n c : Nat) (w : World) (hok : Im.Ok g r) (hd : 0 <= g.dice /\ g.dice <= 18446744073709551615) (hn : n = g.qaa.length) (hr : Lies w w.heap.size 6 A n (Gm.qad g.qaa)) :
 Calls Tryz.prog 114 #[.agg (Im.cells g (.slice A n c) r)] w fun e w' => ∃ A' c', e = .returned (.tuple #[.slice A' (Im.put g r).length c', .int .i64 0]) /\ Lies w' w'.heap.size 1 A' (Im.put g r).length (Im.u8s (Im.put g r)) /\ Below w.heap.size w w' := by
 have hmf : ∀ (fn : Fn) (first cap : Array Value) (w : World), (Instr.makeFunc fn first cap).run Tryz.prog w = .ok (.func fn first cap) w := fun _ _ _ _ => rfl
 have hn32 : g.qaa.length <= 32 := hok.1.2.2.1
 have hlen := Im.qqH g r hn32
 have P1 := qh (((Box.made w 38 (Im.cells g (.slice A n c) r)).alloc (.cells #[.slice none 0 0] 165)).alloc (.cells #[.int .i64 0] 3))
 have B1 := qh ((Box.qaq (n := w.heap.size + 1) (w.alloc (.cells (Im.cells g (.slice A n c) r) 38)) 165 #[.slice none 0 0] (by simp)).alloc (.cells #[.int .i64 0] 3))
 have C1 := qh (Box.qaq (n := w.heap.size + 1 + 1) ((w.alloc (.cells (Im.cells g (.slice A n c) r) 38)).alloc (.cells #[.slice none 0 0] 165)) 3 #[.int .i64 0] (by simp))
 have K1 := qh ((((Below.refl w.heap.size w).alloc (Nat.le_refl _) (.cells (Im.cells g (.slice A n c) r) 38)).alloc (by simp) (.cells #[.slice none 0 0] 165)).alloc (by simp <;> omega) (.cells #[.int .i64 0] 3))
 have hr1 := (hr.below K1.out).wider K1.out.size
 have hr0 := hr.below K1.out
 have cm := fun X hX => qh (qjS g r A n c X ⟨by have := hok.1.1; have := hok.1.2.1; unfold Gm.i64; omega, hd, fun i hi => (hok.1.2.2.2.1 i hi).ty, fun i hi => (hok.1.2.2.2.2 i hi).ty⟩ hn (by rw [hn]; unfold maxLen; omega) hX)
 have cl := fun Bp X h1 h2 h3 h4 => qh (qmL g r n A c w.heap.size [] w.heap.size (w.heap.size + 1) Bp X hn hok.1 hd hok.2.1 (Nat.le_succ _) (Nat.le_refl _) h1 h2 (by simp) h3 h4)
 have HR := qh hr1
 have H0 := qh hr0
 have HN := qh hok
 have HD := qh hd
 have HL := qh hlen
 clear hr hr1 hr0 hn hok hd hn32 hlen
 go_enter_defers Tryz.func114, Tryz.ntmps114
 go_wp2_with (first | ((with_reducible refine qak rfl rfl ?_); apply qaC.mk rfl; (focus (with_reducible exact P1.out)); dsimp only) | (go_at_call 142; ((with_reducible refine ((cm _ HR.out).out).mono ?_); rintro e w1 ⟨⟨v, rfl, hv⟩, hb⟩; obtain rfl : v = true := hv.2 HN.out; have P2 := qh (P1.out.below hb P1.out.lt); have C2 := qh (C1.out.below hb C1.out.lt); have B2 := qh (B1.out.below hb B1.out.lt); have K2 := qh (K1.out.trans (hb.mono K1.out.size)); have H2 := qh (H0.out.below (hb.mono K1.out.size)); clear hb hv)) | (go_at_call 141; ((with_reducible refine (qiC _ _).mono ?_); rintro e w2 ⟨rfl, rfl⟩)) | (go_at_call 144; ((with_reducible refine (ql5 _ _).mono ?_); rintro e w3 ⟨rfl, rfl⟩)) | (go_at_call 143; ((with_reducible refine ((cl _ _ (K2.out.alloc K2.out.size _).size (Wr.nil (Box.made _ _ _) (B2.out.alloc _)) (P2.out.alloc _) (H2.out.below ((qac _ _).mono K2.out.size))).out).mono ?_); rintro e w3 ⟨rfl, hI, hb, hk⟩; rw [List.nil_append] at hI; have C3 := qh (hk _ _ _ (C2.out.alloc _) (by omega) (by decide) (by decide)); have K3 := qh ((K2.out.alloc K2.out.size _).trans hb); obtain ⟨h1, A', c', hB, ho⟩ := hI; have B3 := qh hB; have O3 := qh ho; have b3 := hB.cell 0; have f3 := hB.free 0; have c3 := (C3.out.far (p := ⟨w.heap.size + 1, 0, none⟩) (show w.heap.size + 1 + 1 ≠ w.heap.size + 1 by omega) (.slice A' (Im.put g r).length c')).cell 0; have g3 := (C3.out.far (p := ⟨w.heap.size + 1, 0, none⟩) (show w.heap.size + 1 + 1 ≠ w.heap.size + 1 by omega) (.slice A' (Im.put g r).length c')).free 0; clear h1 hB ho hb hk)))
 have ne : w.heap.size + 1 ≠ w.heap.size + 1 + 1 := by omega
 have B4 := (B3.out.put 0 (.slice A' (Im.put g r).length c')).far (p := ⟨w.heap.size + 1 + 1, 0, none⟩) ne (.int .i64 0)
 have C4 := (C3.out.far (p := ⟨w.heap.size + 1, 0, none⟩) (fun e => ne e.symm) (.slice A' (Im.put g r).length c')).put 0 (.int .i64 0)
 have K4 := (K3.out.setCell (p := ⟨w.heap.size + 1, 0, none⟩) (Nat.le_succ _) (.slice A' (Im.put g r).length c')).setCell (p := ⟨w.heap.size + 1 + 1, 0, none⟩) (by show w.heap.size <= w.heap.size + 1 + 1; omega) (.int .i64 0)
 have O4 := Lies.owned (ownsRow_setCell_other (a := ⟨w.heap.size + 1 + 1, 0, none⟩) (ownsRow_setCell_other (a := ⟨w.heap.size + 1, 0, none⟩) O3.out (B3.out.qaM O3.out (by decide)) (.slice A' (Im.put g r).length c')) ((C3.out.far (p := ⟨w.heap.size + 1, 0, none⟩) (fun e => ne e.symm) (.slice A' (Im.put g r).length c')).qaM (ownsRow_setCell_other (a := ⟨w.heap.size + 1, 0, none⟩) O3.out (B3.out.qaM O3.out (by decide)) (.slice A' (Im.put g r).length c')) (by decide)) (.int .i64 0))
 have b4 := B4.cell 0
 have c4 := C4.cell 0
 simp at b4 c4
 refine leaves_cons (f := 140) (args := #[.pointer (some ⟨w.heap.size + 1, 0, none⟩), .pointer (some ⟨w.heap.size + 1 + 1, 0, none⟩)]) (by simp) (by simp [go_sem]) ?_
 refine (qhz _ _ _).mono ?_
 rintro e u' w'' ⟨rfl, rfl, rfl⟩
 simp [Leaves, settle, results, Tryz.results114, go_sem, b4, c4]
 exact ⟨O4.wider (by simp), K4⟩
namespace Im
open Go Go.RowKit _root_.Im
def R0 : Ros.R := ⟨0, fun _ => 0, fun _ => 0⟩
def G0 : Gm.G := ⟨0, 0, fun _ => Gm.Ship.none, []⟩
end Im
open Go.RowKit Go.Shelf
namespace Im
def zero : Array Value := cells G0 (.slice none 0 0) R0
theorem qaO : zero.size = 76 := qaf _ _ _
end Im
theorem qcr : (Tryz.prog.info? 38).map (·.zero) = some (some (.agg Im.zero)) := by kernel_rfl
theorem qaz {ops : Array Oper} {Q : Exit -> Act -> World -> Prop} {o : Oper} {rest : List Oper} {a : Act} {w : World} (hgd : o.guard = none) (ho : o.op = .alloc 38)
 (h : wpList Tryz.prog ops Q rest (a.put o.dst (.pointer (some ⟨w.heap.size, 0, none⟩))) (w.alloc (.cells Im.zero 38))) : wpList Tryz.prog ops Q (o :: rest) a w :=
 qbB hgd ho qcr rfl h
theorem qgq : Tryz.prog.built 38 [] = some Im.zero := by kernel_rfl
theorem qir (r : Ros.R) : (Ros.cells r).all (·.oneCell') = true := by
 rw [Array.all_eq_true']
 intro x hx
 obtain ⟨n, rfl⟩ := Ros.qh5 r x (by simpa using hx)
 rfl
theorem qfL (g : Gm.G) (s : Value) (r : Ros.R) (hs : s.oneCell' = true) : (Im.cells g s r).all (·.oneCell') = true := by
 unfold Im.cells
 rw [Array.all_append, cells_one g s hs, qir r]
 rfl
abbrev qcJ := Nat -> (Nat -> Prop) -> Nat -> List Fd.S -> World -> Prop
def qkm (s : Fd.S) (X : World) (e : Ending) (X' : World) : Prop :=
 ∃ A c, e = .returned (.tuple #[.agg (Rg.St.arr ⟨s.g, s.r, A, c⟩), .bool true]) /\ Lies X' X'.heap.size 6 A s.g.qaa.length (Gm.qad s.g.qaa) /\ (s.g.qaa.length ≠ 0 -> X'.ownsRow X.heap.size 80 6 (.slice A s.g.qaa.length c) s.g.qaa.length (Gm.qad s.g.qaa)) /\ Below X.heap.size X X'
structure qdM (LP : qcJ) : Prop where
 ob : ObjC LP
 new_yes : ∀ (b : Nat) (q : Rg.St) (X : World), b <= X.heap.size -> Gm.ty q.g -> Im.Ok q.g q.r -> Lies X X.heap.size 6 q.A q.g.qaa.length (Gm.qad q.g.qaa) -> Calls Tryz.prog 34 #[.agg q.arr] X fun e X' => ∃ B F, e = .returned (.pointer (some ⟨B, 0, none⟩)) /\ LP b F B [q.s] X' /\ Below X.heap.size X X' /\ ∀ k, F k -> X.heap.size <= k
 new_no : ∀ (q : Rg.St) (X : World), Gm.ty q.g -> ¬ Im.Ok q.g q.r -> q.g.qaa.length <= maxLen -> Lies X X.heap.size 6 q.A q.g.qaa.length (Gm.qad q.g.qaa) -> Calls Tryz.prog 34 #[.agg q.arr] X fun e X' => e = .returned (.pointer none) /\ Below X.heap.size X X'
 push : ∀ (b : Nat) (F : Nat -> Prop) (B : Nat) (M : List Fd.S), Rg.Ok M -> ∀ (q : Rg.St), Gm.ty q.g -> q.g.qaa.length <= maxLen -> ∀ X, LP b F B M X -> b <= X.heap.size -> Lies X X.heap.size 6 q.A q.g.qaa.length (Gm.qad q.g.qaa) -> Calls Tryz.prog 60 #[.pointer (some ⟨B, 0, none⟩), .agg q.arr] X (qbN LP b F B (Rg.push M q.s) (.bool (Rg.pushB M q.s)) X)
 at_yes : ∀ (b : Nat) (F : Nat -> Prop) (B : Nat) (M : List Fd.S), Rg.Ok M -> ∀ (f : Int) (s : Fd.S), Rg.at_ M f = some s -> ∀ X, LP b F B M X -> Calls Tryz.prog 43 #[.pointer (some ⟨B, 0, none⟩), .int .i64 f] X (qkm s X)
 at_no : ∀ (b : Nat) (F : Nat -> Prop) (B : Nat) (M : List Fd.S), Rg.Ok M -> ∀ (f : Int), -9223372036854775808 <= f /\ f <= 9223372036854775807 -> Rg.at_ M f = none -> ∀ X, LP b F B M X -> Calls Tryz.prog 43 #[.pointer (some ⟨B, 0, none⟩), .int .i64 f] X fun e X' => e = .returned (.tuple #[.agg Im.zero, .bool false]) /\ Below X.heap.size X X'
 cut : ∀ (b : Nat) (F : Nat -> Prop) (B : Nat) (M : List Fd.S), Rg.Ok M -> ∀ (f : Int), -9223372036854775808 <= f /\ f <= 9223372036854775807 -> ∀ X, LP b F B M X -> b <= X.heap.size -> Calls Tryz.prog 59 #[.pointer (some ⟨B, 0, none⟩), .int .i64 f] X (qbN LP b F B (Rg.cut M f) (.bool (Rg.hasB M f)) X)
 drop : ∀ (b : Nat) (F : Nat -> Prop) (B : Nat) (M : List Fd.S), Rg.Ok M -> ∀ (f : Int), -9223372036854775808 <= f /\ f <= 9223372036854775807 -> ∀ X, LP b F B M X -> b <= X.heap.size -> Calls Tryz.prog 61 #[.pointer (some ⟨B, 0, none⟩), .int .i64 f] X (qbN LP b F B (Rg.drop M f) (.bool (Rg.hasB M f)) X)
 len : ∀ (b : Nat) (F : Nat -> Prop) (B : Nat) (M : List Fd.S), Rg.Ok M -> ∀ X, LP b F B M X -> Calls Tryz.prog 83 #[.pointer (some ⟨B, 0, none⟩)] X fun e X' => e = .returned (.int .i64 (M.length : Nat)) /\ Below X.heap.size X X'
 first : ∀ (b : Nat) (F : Nat -> Prop) (B : Nat) (M : List Fd.S), Rg.Ok M -> ∀ X, LP b F B M X -> Calls Tryz.prog 44 #[.pointer (some ⟨B, 0, none⟩)] X fun e X' => e = .returned (.int .i64 (Rg.first M)) /\ Below X.heap.size X X'
 last : ∀ (b : Nat) (F : Nat -> Prop) (B : Nat) (M : List Fd.S), Rg.Ok M -> ∀ X, LP b F B M X -> Calls Tryz.prog 46 #[.pointer (some ⟨B, 0, none⟩)] X fun e X' => e = .returned (.int .i64 (Rg.last M)) /\ Below X.heap.size X X'
 push0 : ∀ (q : Rg.St) (X : World), Gm.ty q.g -> q.g.qaa.length <= maxLen -> Lies X X.heap.size 6 q.A q.g.qaa.length (Gm.qad q.g.qaa) -> Calls Tryz.prog 60 #[.pointer none, .agg q.arr] X fun e X' => e = .returned (.bool false) /\ Below X.heap.size X X'
 cut0 : ∀ (f : Int) (X : World), Calls Tryz.prog 59 #[.pointer none, .int .i64 f] X fun e X' => e = .returned (.bool false) /\ Below X.heap.size X X'
 drop0 : ∀ (f : Int) (X : World), Calls Tryz.prog 61 #[.pointer none, .int .i64 f] X fun e X' => e = .returned (.bool false) /\ Below X.heap.size X X'
 len0 : ∀ (X : World), Calls Tryz.prog 83 #[.pointer none] X fun e X' => e = .returned (.int .i64 0) /\ Below X.heap.size X X'
section
variable {LP : qcJ} (C : qdM LP) {w : World} {B : Nat} {M : List Fd.S} {G : Nat -> Prop} {X X' : World}
include C
end
theorem qb1.more {μ : Type} {LP : Nat -> (Nat -> Prop) -> Nat -> μ -> World -> Prop} (C : ObjC LP) {w X X' : World} {B : Nat} {m : μ} {G : Nat -> Prop} (h : qb1 LP w B m G X) (hb : Below X.heap.size X X') : qb1 LP w B m (fun j => G j \/ (X.heap.size <= j /\ j < X'.heap.size)) X' := by
 obtain ⟨F, h1, h2, h3⟩ := h
 refine ⟨F, C.keep h1 (qaB.qa9 hb) (fun _ _ h => h), fun j hj => ?_, h3.trans (hb.mono h3.size)⟩
 rcases hj with hj | ⟨hj, hj2⟩
 · exact ⟨(h2 j hj).1, (h2 j hj).2.1, Nat.lt_of_lt_of_le (h2 j hj).2.2 hb.size⟩
 · exact ⟨fun hf => by have := (C.up h1 _ hf).2; omega, Nat.le_trans h3.size hj, hj2⟩
end Go.Proofs.YtmiopphcfdlneaaGreat
namespace Qu
open Go
structure M where
 from_ : Int
 last : Gm.In
 known : Nat -> Option Gm.In
def new (f : Int) (i : Gm.In) : M := ⟨f, i, fun _ => none⟩
def inB (i : Gm.In) : Bool := decide (-127 <= i.x /\ -127 <= i.y)
def upd {α : Type} (g : Nat -> α) (k : Nat) (v : α) : Nat -> α := fun j => if j = k then v else g j
theorem upd_same {α : Type} (g : Nat -> α) (k : Nat) (v : α) : upd g k v k = v := if_pos rfl
theorem qam {α : Type} (g : Nat -> α) {k j : Nat} (v : α) (h : j ≠ k) : upd g k v j = g j := if_neg h
def qbT (m : M) (f : Int) (i : Gm.In) : Bool := inB i && decide (m.from_ <= f /\ f - m.from_ <= 63) && (m.known (f - m.from_).toNat).isNone
def put (m : M) (f : Int) (i : Gm.In) : M := if qbT m f i = true then { m with known := upd m.known (f - m.from_).toNat (some i) } else m
def atN (m : M) (d : Nat) : Nat -> Gm.In × Bool
 | 0 => (m.last, false)
 | i + 1 => match m.known i with
  | some v => if i <= d then (v, decide (d = i)) else atN m d i
  | none => atN m d i
def at_ (m : M) (f : Int) : Gm.In × Bool := if f < m.from_ then (m.last, false) else atN m (f - m.from_).toNat 64
def done (m : M) (i : Gm.In) : M := ⟨m.from_ + 1, i, fun k => if k < 63 then m.known (k + 1) else none⟩
structure M.Ok (m : M) : Prop where
 from_ : 0 <= m.from_ /\ m.from_ <= 1099511627776
 last : Gm.tyIn m.last
 known : ∀ k v, m.known k = some v -> k < 64 /\ Gm.tyIn v
theorem qlQ {f : Int} {i : Gm.In} (hf : 0 <= f /\ f <= 1099511627776) (hi : Gm.tyIn i) : (new f i).Ok := ⟨hf, hi, fun k v h => by cases h⟩
theorem qqF {m : M} (h : m.Ok) (f : Int) {i : Gm.In} (hi : Gm.tyIn i) : (put m f i).Ok := by
 unfold put
 split
 · rename_i hp
   refine ⟨h.from_, h.last, fun k v hk => ?_⟩
   have hk' : upd m.known (f - m.from_).toNat (some i) k = some v := hk
   unfold qbT at hp
   rw [Bool.and_eq_true, Bool.and_eq_true] at hp
   have hd := of_decide_eq_true hp.1.2
   by_cases he : k = (f - m.from_).toNat
   · rw [he, upd_same] at hk'
     injection hk' with hv
     exact ⟨by omega, hv ▸ hi⟩
   · rw [qam _ _ he] at hk'
     exact h.known k v hk'
 · exact h
theorem qbX {m : M} {d i : Nat} {v : Gm.In} (h : m.known i = some v) (hi : i <= d) : atN m d (i + 1) = (v, decide (d = i)) := by
 show (match m.known i with | some v => if i <= d then (v, decide (d = i)) else atN m d i | none => atN m d i) = _
 rw [h]
 exact if_pos hi
theorem qcF {m : M} {d i : Nat} (hi : ¬ i <= d) : atN m d (i + 1) = atN m d i := by
 show (match m.known i with | some v => if i <= d then (v, decide (d = i)) else atN m d i | none => atN m d i) = _
 cases m.known i
 · rfl
 · exact if_neg hi
theorem qbY {m : M} {d i : Nat} (h : m.known i = none) : atN m d (i + 1) = atN m d i := by
 show (match m.known i with | some v => if i <= d then (v, decide (d = i)) else atN m d i | none => atN m d i) = _
 rw [h]
theorem qlu {m : M} {d : Nat} : ∀ {n : Nat}, d < n -> atN m d n = atN m d (d + 1)
 | 0, h => absurd h (Nat.not_lt_zero _)
 | n + 1, h => by
  by_cases hn : d = n
  · rw [hn]
  · rw [qcF (by omega)]
    exact qlu (by omega)
theorem qkh {m : M} {d n : Nat} {v : Gm.In} (h : m.known d = some v) (hn : d < n) : atN m d n = (v, true) := by
 rw [qlu hn, qbX h (Nat.le_refl _), decide_eq_true rfl]
theorem qnc {m : M} {d n : Nat} (h : m.known d = none) : (atN m d n).1 = (atN m (d - 1) n).1 /\ (0 < d -> (atN m d n).2 = false) := by
 induction n with
 | zero => exact ⟨rfl, fun _ => rfl⟩
 | succ n ih =>
  cases hk : m.known n with
  | none => rw [qbY hk, qbY hk]; exact ih
  | some v =>
   have hdn : d ≠ n := fun e => by rw [e, hk] at h; cases h
   by_cases hn : n <= d
   · rw [qbX hk hn, qbX hk (by omega)]
     exact ⟨rfl, fun _ => decide_eq_false hdn⟩
   · rw [qcF hn, qcF (by omega)]
     exact ih
theorem qee {m : M} : ∀ {n d : Nat}, (∀ k, k < n -> k <= d -> m.known k = none) -> atN m d n = (m.last, false)
 | 0, _, _ => rfl
 | n + 1, d, h => by
  by_cases hn : n <= d
  · rw [qbY (h n (Nat.lt_succ_self n) hn)]
    exact qee fun k hk hd => h k (by omega) hd
  · rw [qcF hn]
    exact qee fun k hk hd => h k (by omega) hd
theorem qpQ {m : M} {d n : Nat} (hn : d < n) : (atN m d n).2 = (m.known d).isSome := by
 cases h : m.known d with
 | some v => rw [qkh h hn]; rfl
 | none =>
  rw [qlu hn, qbY h]
  have H : ∀ j, j <= d -> (atN m d j).2 = false := by
   intro j
   induction j with
   | zero => exact fun _ => rfl
   | succ j ih =>
    intro hj
    cases hk : m.known j with
    | none => rw [qbY hk]; exact ih (by omega)
    | some v => rw [qbX hk (by omega)]; exact decide_eq_false (by omega)
  exact H d (Nat.le_refl _)
end Qu