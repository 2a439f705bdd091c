/-
Play with no inputs: who is there, by a mask.
-/
import Derived.Test.YtbihnmingedgfaaHy
import Derived.Test.YtbihnmingedgfaaPs
import Derived.Outline
import Derived.Deep.CutRange
import Derived.Deep.CutBlock
import Derived.Deep.DeepCutAuto
namespace Go.Proofs.Ytbihnmingedgfaa
open Go.RowKit Go.Shelf
set_option linter.unusedVariables false

/-- What stays while ships are put there. -/
structure PlayAt (BG BR : Nat) (w0 : World) (m d : Int) (k : Nat) (w : World) : Prop where
  has : ∃ A c, Box w BG 30 (Gm.cells (Gm.spawnTo m (Gm.new d) k) (.slice A (Gm.spawnTo m (Gm.new d) k).shots.length c))
  res : Box w BR 30 (Gm.cells zeroG (.slice none 0 0))
  below : Below w0.heap.size w0 w

set_option maxRecDepth 100000 in
set_option maxHeartbeats 8000000 in
theorem play_any (s : ByteArray) (m : Int) (hs : s.size ≤ maxLen) (w : World) :
    Calls Try.prog 22 #[.string s, .int .i64 m, .slice none 0 0] w fun e w' => ∃ A c, e = .returned (.tuple #[.agg (Gm.cells (Gm.spawnTo m (Gm.new (Dn.seed s.data.toList)) 8) (.slice A 0 c)), .bool true]) ∧ Below w.heap.size w w' := by
  have hd : 0 ≤ Dn.seed s.data.toList ∧ Dn.seed s.data.toList ≤ 18446744073709551615 := Dn.seed_bd _
  have cn := fun X => Lib.hid (new_any s X hs)
  generalize Dn.seed s.data.toList = d at *
  obtain ⟨g0, hg0⟩ : ∃ g, g = Gm.new d := ⟨_, rfl⟩
  simp only [← hg0] at cn
  have HB0 := Lib.hid (one_below w (.cells (Gm.cells zeroG (.slice none 0 0)) 30))
  have R0 := Lib.hid (Box.made w 30 (Gm.cells zeroG (.slice none 0 0)))
  have hG0 := Lib.hid hg0
  have hD := Lib.hid hd
  have szs := Lib.hid hs
  clear hg0 hd hs
  go_enter Try.func22, Try.ntmps22
  go_wp2_with (first | ((with_reducible refine wpList_alloc_game rfl rfl ?_)) | ((with_reducible refine wpList_store_game_new rfl rfl rfl rfl rfl rfl ?_)) | (go_at_call 15; ((with_reducible refine ((cn _).out).mono ?_); rintro e w1 ⟨rfl, hb⟩; have HB1 := Lib.hid ((HB0.out.trans (hb.mono HB0.out.size)).alloc (HB0.out.trans (hb.mono HB0.out.size)).size (.cells (Gm.cells g0 (.slice none 0 0)) 30)); have R1 := Lib.hid ((R0.out.below hb R0.out.lt).alloc (.cells (Gm.cells g0 (.slice none 0 0)) 30)); have P1 := Lib.hid (Box.made w1 30 (Gm.cells g0 (.slice none 0 0))); have sz1 : w.heap.size < w1.heap.size := (by have := hb.size; simp at this; omega); clear hb HB0 R0)))
  generalize hW1 : w1.alloc (.cells (Gm.cells g0 (.slice none 0 0)) 30) = V at *
  generalize w1.heap.size = BG at *
  clear hW1
  go_loopw [9, 10, 11] (fun i h e wr => ∃ k : Nat, k ≤ 8 ∧ i = .int .i64 k ∧ PlayAt BG w.heap.size w m d k wr) (fun i _ _ _ => 8 - (intOf i).toNat)
  case atStart => exact ⟨0, Nat.zero_le _, rfl, ⟨⟨none, 0, by rw [show Gm.spawnTo m (Gm.new d) 0 = g0 from hG0.out.symm, show g0.shots.length = 0 from by rw [hG0.out]; rfl]; exact P1.out⟩, R1.out, HB1.out⟩⟩
  case round =>
    obtain ⟨k, hk, rfl, hS⟩ := hrel
    obtain ⟨⟨A, c, hx⟩, hr, hy⟩ := hS
    clear P1 R1 HB1
    have HX := Lib.hid hx
    have HR := Lib.hid hr
    have HY := Lib.hid hy
    have sz : BG < wr.heap.size := hx.lt
    have szr : w.heap.size < wr.heap.size := hr.lt
    have fr := Gm.fresh_to m d hD.out k hk
    by_cases hlt : k < 8
    · have hk8 : (k : Int) < 8 := by omega
      have hwk : IntKind.u64.wrap (k : Int) = (k : Int) := by rw [IntKind.wrap_u64]; omega
      cases hbit : Gm.bit m k
      · have hb : (bits .and .i64 (m / 2 ^ k) 1 == 1) = false := hbit
        have hG : Gm.spawnTo m (Gm.new d) (k + 1) = Gm.spawnTo m (Gm.new d) k := by show (if Gm.bit m k = true then _ else _) = _; rw [hbit]; rfl
        have hGG := Lib.hid hG
        clear hx hr hy fr hG hbit
        go_wp2_with fail
        all_goals
          go_roundw
          case rel => exact ⟨k + 1, by omega, by go_num, ⟨⟨A, c, by rw [hGG.out]; exact HX.out⟩, HR.out, HY.out⟩⟩
          case measure => simp [intOf]; omega
      · have hb : (bits .and .i64 (m / 2 ^ k) 1 == 1) = true := hbit
        have hG : Gm.spawnTo m (Gm.new d) (k + 1) = Gm.spawn (Gm.spawnTo m (Gm.new d) k) k := by show (if Gm.bit m k = true then _ else _) = _; rw [hbit]; rfl
        have csp := Lib.hid (spawn_yes (Gm.spawnTo m (Gm.new d) k) A _ c k wr fr.ok fr.dice rfl (lies_zero wr A _ fr.shots) hlt (by rw [fr.on k]; simp))
        rw [← hG] at csp
        obtain ⟨G, hGe⟩ : ∃ G, G = Gm.spawnTo m (Gm.new d) (k + 1) := ⟨_, rfl⟩
        simp only [← hGe] at csp
        have hGG := Lib.hid hGe
        obtain ⟨g, hg⟩ : ∃ g, g = Gm.spawnTo m (Gm.new d) k := ⟨_, rfl⟩
        simp only [← hg] at csp HX
        clear hx hr hy fr hG hbit hGe hg
        go_wp2_with (first | ((with_reducible refine load_gate rfl rfl ?_); apply LoadGame.mk rfl; (with_reducible exact HX.out)) | ((with_reducible refine wpList_alloc_game rfl rfl ?_)) | ((with_reducible refine wpList_store_game_new rfl rfl rfl rfl rfl rfl ?_)) | (go_at_call 17; ((with_reducible refine (csp.out).mono ?_); rintro e w3 ⟨A2, c2, rfl, _, hb⟩; have K4 := Lib.hid ((HY.out.trans (hb.mono HY.out.size)).alloc (Nat.le_trans HY.out.size hb.size) (.cells (Gm.cells G (.slice A2 G.shots.length c2)) 30)); have X4 := Lib.hid ((HX.out.below hb HX.out.lt).alloc (.cells (Gm.cells G (.slice A2 G.shots.length c2)) 30)); have R4 := Lib.hid ((HR.out.below hb HR.out.lt).alloc (.cells (Gm.cells G (.slice A2 G.shots.length c2)) 30)); have Q4 := Lib.hid (Box.made w3 30 (Gm.cells G (.slice A2 G.shots.length c2))); clear hb)) | ((with_reducible refine load_gate rfl rfl ?_); apply LoadGame.mk rfl; (with_reducible exact Q4.out)) | ((with_reducible refine store_gate rfl rfl ?_); apply StoreGame.mk rfl rfl rfl; focus (with_reducible exact X4.out)))
        all_goals
          go_roundw
          case rel => exact ⟨k + 1, by omega, by go_num, ⟨⟨A2, c2, by rw [← hGG.out]; exact X4.out.row _⟩, R4.out.row_far (by omega) _, Below.setRow' K4.out (by omega) _⟩⟩
          case measure => simp [intOf]; omega
    · have e8 : k = 8 := by omega
      have hk8 : ¬ (k : Int) < 8 := by omega
      have hsh : (Gm.spawnTo m (Gm.new d) k).shots.length = 0 := by rw [fr.shots]; rfl
      rw [hsh] at HX
      obtain ⟨g, hg⟩ : ∃ g, g = Gm.spawnTo m (Gm.new d) k := ⟨_, rfl⟩
      rw [← hg] at HX
      rw [e8] at hg
      have HG := Lib.hid hg
      clear hx hr hy fr hg hsh cn e8
      go_wp2_with fail
      go_loopw [12, 13, 14, 15, 16] (fun i _ _ _ _ wr' => i = .int .i64 0 ∧ wr' = wr) (fun i _ _ _ _ _ => 1)
      case atStart => exact ⟨rfl, rfl⟩
      case round =>
        obtain ⟨rfl, rfl⟩ := hrel
        go_wp2_with (first | ((with_reducible refine load_gate rfl rfl ?_); apply LoadGame.mk rfl; (with_reducible exact HX.out)) | ((with_reducible refine store_gate rfl rfl ?_); apply StoreGame.mk rfl rfl rfl; focus (with_reducible exact HR.out)))
        refine bodyPost_ret (v := .tuple #[.agg (Gm.cells g (.slice A 0 c)), .bool true]) ?_ ?_ ?_
        · have hh := results_cell_tmp (P := Try.prog) (fn := Try.f22) (p := 6) (q := 7) rfl
          exact hh _ _ _ _ (Gm.cells g (.slice A 0 c)) _ rfl (Box.row HR.out _) Try.underlying30 rfl game_info
        · rfl
        · exact ⟨A, c, by rw [← HG.out], Below.setRow' HY.out (by omega) _⟩
end Go.Proofs.Ytbihnmingedgfaa
