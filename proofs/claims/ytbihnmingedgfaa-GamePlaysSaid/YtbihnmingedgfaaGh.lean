/-
drafts
-/
import Derived.Test.YtbihnmingedgfaaGr
import Derived.Test.YtbihnmingedgfaaGa
import Derived.Outline
import Derived.Deep.QuietTactic
import Derived.BigQuiet
namespace Go.Proofs.Ytbihnmingedgfaa
open Go.RowKit
set_option linter.unusedVariables false

set_option maxHeartbeats 400000 in
theorem reftame_any (a : Int) (wa : -128 ≤ a ∧ a ≤ 127) (w : World) :
    Calls Try.prog 65 #[.int .i8 a] w fun e w' => e = .returned (.int .i8 (Gf.tame a)) ∧ w = w' := by
  go_enter Try.func65, Try.ntmps65
  go_wp2
  · go_ret
    exact ⟨ret_int (by unfold Gf.tame; simp_all), rfl⟩
  · go_ret
    exact ⟨ret_int (by unfold Gf.tame; simp_all), rfl⟩

set_option maxRecDepth 100000 in
set_option maxHeartbeats 4000000 in
theorem refhit_any (g : Gm.G) (v : Value) (s : Gm.Shot) (w : World) (hg : ∀ i, i < 8 → Gm.tyShip (g.ship i)) (hs : Gm.tyShot s) :
    Calls Try.prog 69 #[.agg (Gm.cells g v), .agg s.cells.toArray] w fun e w' => e = .returned (.int .i64 (Gm.hit g.ship s)) ∧ Below w.heap.size w w' := by
  obtain ⟨owner, sx, sy, svx, svy, left⟩ := s
  obtain ⟨t1, t2, t3, t4, t5, t6⟩ := hs
  simp only [Gm.i32, Gm.i64] at t1 t2 t3 t4 t5 t6
  simp only [Gm.Shot.cells]
  go_enter Try.func69, Try.ntmps69
  go_wp2
  go_loopw [5] (fun i wr => ∃ k : Nat, k ≤ 8 ∧ i = .int .i64 k ∧ Box wr w.heap.size 30 (Gm.cells g v) ∧ Box wr (w.heap.size + 1) 108 #[.int .i64 owner, .int .i32 sx, .int .i32 sy, .int .i32 svx, .int .i32 svy, .int .i64 left] ∧ Below w.heap.size w wr ∧
      Hid (Gm.hit g.ship ⟨owner, sx, sy, svx, svy, left⟩ = Gm.hitFrom g.ship ⟨owner, sx, sy, svx, svy, left⟩ (8 - k) k)) (fun i _ => 8 - (intOf i).toNat)
  case atStart => exact ⟨0, by omega, rfl, (Box.made _ _ _).alloc _, Box.made_at _ _ _ (by simp), two_below' _ _ _, Lib.hid rfl⟩
  case round =>
    obtain ⟨k, hk, rfl, hB, hC, hb, hh⟩ := hrel
    by_cases hlt : k < 8
    · have hcr := hB.cell
      have hds := hC.cell
      have hlB := hB.lt
      have e0 := cells_at hcr hlt 0 (by omega)
      have e1 := cells_at hcr hlt 1 (by omega)
      have e2 := cells_at hcr hlt 2 (by omega)
      have ho := hg k hlt
      have hq : Gm.hits1 g.ship ⟨owner, sx, sy, svx, svy, left⟩ k = ((g.ship k).on && (decide ((k : Int) ≠ owner) && Gf.hits sx sy (g.ship k).x (g.ship k).y)) := rfl
      have HQ := Lib.hid hq
      clear hq
      generalize g.ship k = s at e0 e1 e2 ho HQ
      obtain ⟨on, x, y, vx, vy, cool, score⟩ := s
      simp only [Gm.Ship.cells, List.getElem?_cons_zero, List.getElem?_cons_succ, Nat.add_zero] at e0 e1 e2
      obtain ⟨o1, o2, o3, o4, o5, o6⟩ := ho
      simp only [Gm.i32] at o1 o2
      dsimp only at HQ
      have f0 := hds 0
      have f1 := hds 1
      have f2 := hds 2
      simp only [List.getElem?_toArray, List.getElem?_cons_zero, List.getElem?_cons_succ] at f0 f1 f2
      have hk8 : (k : Int) < 8 := by omega
      clear hcr hds
      have HN : Gm.hits1 g.ship ⟨owner, sx, sy, svx, svy, left⟩ k = false → Hid (Gm.hit g.ship ⟨owner, sx, sy, svx, svy, left⟩ = Gm.hitFrom g.ship ⟨owner, sx, sy, svx, svy, left⟩ (8 - (k + 1)) (k + 1)) := fun h => Lib.hid (by
        rw [hh.out, show 8 - k = (8 - (k + 1)) + 1 from by omega, Gm.hitFrom_no h])
      have HY : Gm.hits1 g.ship ⟨owner, sx, sy, svx, svy, left⟩ k = true → Gm.hit g.ship ⟨owner, sx, sy, svx, svy, left⟩ = (k : Int) := fun h => by
        rw [hh.out, show 8 - k = (8 - (k + 1)) + 1 from by omega, Gm.hitFrom_yes h]
      rw [HQ.out] at HN HY
      have HN := Lib.hid HN
      have HY := Lib.hid HY
      clear hh HQ
      cases on
      · have HN := HN.out (by simp)
        clear HY
        go_wp2_with fail
        go_quiet (fail)
        go_wp2
        go_roundw
        case rel => exact ⟨k + 1, by omega, by go_num, hB.draws _, hC.draws _, draws_below hb _, HN⟩
        case measure => simp [intOf]; omega
      · by_cases hko : (k : Int) = owner
        · have hko' : ((k : Int) != owner) = false := by simpa using hko
          have HN := HN.out (by simp [hko])
          clear HY hko
          go_wp2_with fail
          go_quiet (fail)
          go_wp2
          go_roundw
          case rel => exact ⟨k + 1, by omega, by go_num, hB.draws _, hC.draws _, draws_below hb _, HN⟩
          case measure => simp [intOf]; omega
        · have hko' : ((k : Int) != owner) = true := by simpa using hko
          cases hH : Gf.hits sx sy x y
          · have HN := HN.out (by simp [hH])
            have c1 := fun X => Lib.hid (refhits_any sx sy x y t2 t3 o1 o2 X)
            rw [hH] at c1
            clear HY hko hH
            go_wp2_with fail
            go_quiet ((go_at_call 118; with_reducible exact draws_left (c1 _).out))
            go_wp2
            go_roundw
            case rel => exact ⟨k + 1, by omega, by go_num, hB.draws _, hC.draws _, draws_below hb _, HN⟩
            case measure => simp [intOf]; omega
          · have HY := HY.out (by simp [hH, hko])
            have HY := Lib.hid HY
            have c1 := fun X => Lib.hid (refhits_any sx sy x y t2 t3 o1 o2 X)
            rw [hH] at c1
            clear HN hko hH
            go_wp2_with fail
            go_quiet ((go_at_call 118; with_reducible exact draws_left (c1 _).out))
            go_wp2
            go_ret
            exact ⟨ret_int HY.out.symm, draws_below hb _⟩
    · have hk8 : ¬ (k : Int) < 8 := by omega
      have HH := Lib.hid (show Gm.hit g.ship ⟨owner, sx, sy, svx, svy, left⟩ = -1 by rw [hh.out, show 8 - k = 0 from by omega]; rfl)
      clear hh
      go_wp2
      go_ret
      exact ⟨ret_int HH.out.symm, hb⟩
end Go.Proofs.Ytbihnmingedgfaa
