/-
A state without ships and shots, read.
-/
import Derived.Test.YtbihnmingedgfaaIo
namespace Go.Proofs.Ytbihnmingedgfaa
namespace Im
open Go Go.RowKit _root_.Im
def shipsFrom (f : Nat → Gm.Ship) : Nat → Nat → List Int
  | _, 0 => []
  | k, n + 1 => ship (f k) ++ shipsFrom f (k + 1) n
theorem ships_from (f : Nat → Gm.Ship) : ∀ (n k : Nat), ships f k ++ shipsFrom f k n = ships f (k + n)
  | 0, k => by simp [shipsFrom]
  | n + 1, k => by
    show ships f k ++ (ship (f k) ++ shipsFrom f (k + 1) n) = _
    rw [← List.append_assoc]
    have := ships_from f n (k + 1)
    rw [show k + 1 + n = k + (n + 1) by omega] at this
    exact this
def seatsFrom (r : Ros.R) : Nat → Nat → List Int
  | _, 0 => []
  | k, n + 1 => (bytesOf 1 (r.peer k + 1) ++ bytesOf 2 (r.gen k)) ++ seatsFrom r (k + 1) n
theorem seats_from (r : Ros.R) : ∀ (n k : Nat), seats r k ++ seatsFrom r k n = seats r (k + n)
  | 0, k => by simp [seatsFrom]
  | n + 1, k => by
    show seats r k ++ ((bytesOf 1 (r.peer k + 1) ++ bytesOf 2 (r.gen k)) ++ seatsFrom r (k + 1) n) = _
    rw [← List.append_assoc]
    have := seats_from r n (k + 1)
    rw [show k + 1 + n = k + (n + 1) by omega] at this
    exact this
/-- The zero of a roster; a roster that is read up to a seat. -/
def R0 : Ros.R := ⟨0, fun _ => 0, fun _ => 0⟩
def G0 : Gm.G := ⟨0, 0, fun _ => Gm.Ship.none, []⟩
def bare (f d : Int) : Gm.G := ⟨f, d, fun _ => Gm.Ship.none, []⟩
def upto (r : Ros.R) (k : Nat) : Ros.R := ⟨r.version, fun i => if i < k then r.peer i else 0, fun i => if i < k then r.gen i else 0⟩
theorem cells_set_g (g : Gm.G) (s : Value) (r : Ros.R) (i : Nat) (hi : i < 59) (v : Value) : (cells g s r).setIfInBounds i v = (Gm.cells g s).setIfInBounds i v ++ Ros.cells r := by
  unfold cells
  rw [Array.setIfInBounds_append, if_pos (by rw [Gm.cells_size]; exact hi)]
theorem cells_set_r (g : Gm.G) (s : Value) (r : Ros.R) (i : Nat) (v : Value) : (cells g s r).setIfInBounds (59 + i) v = Gm.cells g s ++ (Ros.cells r).setIfInBounds i v := by
  unfold cells
  rw [Array.setIfInBounds_append, if_neg (by rw [Gm.cells_size]; omega), Gm.cells_size, Nat.add_sub_cancel_left]
theorem cells_frame (g : Gm.G) (s : Value) (r : Ros.R) (f : Int) : (cells g s r).setIfInBounds 0 (.int .i64 f) = cells { g with frame := f } s r := by rw [cells_set_g _ _ _ _ (by omega)]; rfl
theorem cells_dice (g : Gm.G) (s : Value) (r : Ros.R) (d : Int) : (cells g s r).setIfInBounds 1 (.int .u64 d) = cells { g with dice := d } s r := by rw [cells_set_g _ _ _ _ (by omega)]; rfl
theorem cells_shots' (g : Gm.G) (s s' : Value) (r : Ros.R) : (cells g s r).setIfInBounds 58 s' = cells g s' r := by rw [cells_set_g _ _ _ _ (by omega)]; rfl
theorem cells_version (g : Gm.G) (s : Value) (r : Ros.R) (v : Int) : (cells g s r).setIfInBounds 59 (.int .i64 v) = cells g s { r with version := v } := by rw [cells_set_r g s r 0, Ros.cells_setv]; rfl
theorem cells_seat (g : Gm.G) (s : Value) (r : Ros.R) (k : Nat) (hk : k < 8) : ((cells g s (upto r k)).setIfInBounds (60 + k * 2) (.int .i64 (r.peer k))).setIfInBounds (60 + k * 2 + 1) (.int .i64 (r.gen k)) = cells g s (upto r (k + 1)) := by
  rw [show 60 + k * 2 = 59 + (1 + k * 2) by omega, cells_set_r, Ros.cells_setp _ k hk]
  rw [show 59 + (1 + k * 2) + 1 = 59 + (1 + k * 2 + 1) by omega]
  have := cells_set_r g s { upto r k with peer := Ros.upd (upto r k).peer k (r.peer k) } (1 + k * 2 + 1) (.int .i64 (r.gen k))
  unfold cells at this ⊢
  rw [this, Ros.cells_setg _ k hk]
  refine congrArg (Gm.cells g s ++ ·) ?_
  refine Ros.cells_congr rfl (fun i hi => ?_) (fun i hi => ?_)
  · show Ros.upd (upto r k).peer k (r.peer k) i = if i < k + 1 then r.peer i else 0
    unfold Ros.upd upto
    by_cases e : i = k
    · subst e; simp
    · rw [if_neg e]
      dsimp only
      by_cases h : i < k
      · rw [if_pos h, if_pos (by omega)]
      · rw [if_neg h, if_neg (by omega)]
  · show Ros.upd (upto r k).gen k (r.gen k) i = if i < k + 1 then r.gen i else 0
    unfold Ros.upd upto
    by_cases e : i = k
    · subst e; simp
    · rw [if_neg e]
      dsimp only
      by_cases h : i < k
      · rw [if_pos h, if_pos (by omega)]
      · rw [if_neg h, if_neg (by omega)]
theorem cells_upto (g : Gm.G) (s : Value) (r : Ros.R) : cells g s (upto r 8) = cells g s r := by
  unfold cells
  refine congrArg (Gm.cells g s ++ ·) ?_
  exact Ros.cells_congr rfl (fun i hi => by show (if i < 8 then r.peer i else 0) = _; rw [if_pos hi]) (fun i hi => by show (if i < 8 then r.gen i else 0) = _; rw [if_pos hi])
theorem cells_start (g : Gm.G) (s : Value) (v : Int) (r : Ros.R) (hv : v = r.version) : cells g s { R0 with version := v } = cells g s (upto r 0) := by
  subst hv
  unfold cells
  refine congrArg (Gm.cells g s ++ ·) ?_
  exact Ros.cells_congr rfl (fun i hi => by show 0 = if i < 0 then r.peer i else 0; rw [if_neg (by omega)]) (fun i hi => by show 0 = if i < 0 then r.gen i else 0; rw [if_neg (by omega)])
end Im
open Go.RowKit Go.Shelf
set_option linter.unusedVariables false
set_option linter.unusedSimpArgs false

set_option maxRecDepth 100000 in
set_option maxHeartbeats 8000000 in
theorem laystate_bare_r (f d : Int) (r : Ros.R) (rest : List Int) (B : Nat) (b Bb Bp : Nat) (w : World) (hf : 0 ≤ f ∧ f ≤ 1048576) (hd : 0 ≤ d ∧ d ≤ 18446744073709551615) (hr : Ros.Ok r) (hbB : b ≤ Bb) (hbP : b ≤ B) (hbw : b ≤ w.heap.size) (h : Rd b Bb Bp (Im.put (Im.bare f d) r ++ rest) w) (hP : Box w B 53 (Im.cells Im.G0 (.slice none 0 0) Im.R0)) :
    Calls Try.prog 78 #[.func (.func 130) #[] #[.pointer (some ⟨Bp, 0, none⟩)], .pointer (some ⟨B, 0, none⟩)] w fun e w' => e = .returned (.tuple #[]) ∧ Rd b Bb Bp rest w' ∧ Rk b Bb B w w' ∧ ∃ S, Box w' B 53 (Im.cells (Im.bare f d) (.slice (some ⟨S, 0, none⟩) 0 0) r) := by
  have hput : Im.put (Im.bare f d) r ++ rest = Im.bytesOf 4 f ++ (Im.bytesOf 8 d ++ (Im.shipsFrom (fun _ => Gm.Ship.none) 0 8 ++ (Im.bytesOf 1 0 ++ (Im.bytesOf 4 r.version ++ (Im.seatsFrom r 0 8 ++ rest))))) := by
    have e1 := Im.ships_from (fun _ => Gm.Ship.none) 8 0
    have e2 := Im.seats_from r 8 0
    rw [show 0 + 8 = 8 from rfl] at e1 e2
    unfold Im.put
    show Im.bytesOf 4 f ++ (Im.bytesOf 8 d ++ (Im.ships (fun _ => Gm.Ship.none) 8 ++ ((Im.bytesOf 1 0 ++ Im.shots []) ++ (Im.bytesOf 4 r.version ++ Im.seats r 8)))) ++ rest = _
    rw [← e1, ← e2]
    simp [Im.ships, Im.seats, Im.shots]
  rw [hput] at h
  clear hput
  have c1 := Lib.hid (layint_r 4 4 rfl f f 0 (by omega) (by omega) B 0 53 _ (Im.bytesOf 8 d ++ (Im.shipsFrom (fun _ => Gm.Ship.none) 0 8 ++ (Im.bytesOf 1 0 ++ (Im.bytesOf 4 r.version ++ (Im.seatsFrom r 0 8 ++ rest))))) b Bb Bp w (by decide) hbB hbP hbw h hP rfl (by decide) (by decide) (by decide))
  rw [Im.cells_frame] at c1
  have c2 := fun X hX1 hX2 (hX3 : Box X B 53 (Im.cells { Im.G0 with frame := f } (.slice none 0 0) Im.R0)) => Lib.hid (layu64_r 8 8 rfl d d 0 (by omega) (by omega) B 1 53 _ (Im.shipsFrom (fun _ => Gm.Ship.none) 0 8 ++ (Im.bytesOf 1 0 ++ (Im.bytesOf 4 r.version ++ (Im.seatsFrom r 0 8 ++ rest)))) b Bb Bp X (by decide) hbB hbP hX1 hX2 hX3 rfl (by decide) (by decide) (by decide))
  have HR := Lib.hid hr
  have HW := Lib.hid hbw
  have ltP := hP.lt
  have e0 : ({ ({ Im.G0 with frame := f } : Gm.G) with dice := d } : Gm.G) = Im.bare f d := rfl
  have E0 := Lib.hid e0
  clear h hP hr hbw e0
  go_enter Try.func78, Try.ntmps78
  go_wp2_with (first | (go_at_call 124; ((with_reducible refine (c1.out).mono ?_); rintro e w1 ⟨rfl, hI, hK, hB⟩; have P1 := Lib.hid hB; have I1 := Lib.hid hI; have K1 := Lib.hid hK; clear hI hK hB)) | (go_at_call 125; ((with_reducible refine ((c2 _ (Nat.le_trans HW.out K1.out.below.size) I1.out P1.out).out).mono ?_); rintro e w2 ⟨rfl, hI, hK, hB⟩; rw [Im.cells_dice, E0.out] at hB; have P2 := Lib.hid hB; have I2 := Lib.hid hI; have K2 := Lib.hid (K1.out.trans hK); clear hI hK hB)))
  go_loopw [18] (fun i wr => ∃ k : Nat, k ≤ 8 ∧ i = .int .i64 k ∧ Rd b Bb Bp (Im.shipsFrom (fun _ => Gm.Ship.none) k (8 - k) ++ (Im.bytesOf 1 0 ++ (Im.bytesOf 4 r.version ++ (Im.seatsFrom r 0 8 ++ rest)))) wr ∧ Rk b Bb B w wr ∧ Box wr B 53 (Im.cells (Im.bare f d) (.slice none 0 0) Im.R0)) (fun i _ => 8 - (intOf i).toNat)
  case atStart => exact ⟨0, by omega, rfl, I2.out, K2.out, P2.out⟩
  case round =>
    obtain ⟨k, hk, rfl, hI, hK, hB⟩ := hrel
    clear I1 P1 K1 I2 P2 K2 c1 c2
    by_cases hlt : k < 8
    · have hk8 : (k : Int) < 8 := by omega
      rw [show 8 - k = (8 - (k + 1)) + 1 by omega] at hI
      have eI : Im.shipsFrom (fun _ => Gm.Ship.none) k (8 - (k + 1) + 1) ++ (Im.bytesOf 1 0 ++ (Im.bytesOf 4 r.version ++ (Im.seatsFrom r 0 8 ++ rest))) = Im.bytesOf 1 0 ++ (Im.shipsFrom (fun _ => Gm.Ship.none) (k + 1) (8 - (k + 1)) ++ (Im.bytesOf 1 0 ++ (Im.bytesOf 4 r.version ++ (Im.seatsFrom r 0 8 ++ rest)))) := by
        show (Im.bytesOf 1 0 ++ Im.shipsFrom (fun _ => Gm.Ship.none) (k + 1) (8 - (k + 1))) ++ _ = _
        rw [List.append_assoc]
      rw [eI] at hI
      have eo : (Im.cells (Im.bare f d) (.slice none 0 0) Im.R0)[2 + k * 7]? = some (.bool false) := (Im.cells_ship (Im.bare f d) (.slice none 0 0) Im.R0 k 0 hlt (by omega)).trans rfl
      have c3 := Lib.hid (layship_off_r B (2 + k * 7) 53 _ _ b Bb Bp wr hbB hbP (Nat.le_trans HW.out hK.below.size) hI hB eo (by decide) (by decide) (by decide))
      have HK := Lib.hid hK
      clear hI hK hB eI eo
      go_wp2_with (go_at_call 126; ((with_reducible refine (c3.out).mono ?_); rintro e w4 ⟨rfl, hI, hK, hB⟩; have I4 := Lib.hid hI; have K4 := Lib.hid (HK.out.trans hK); have P4 := Lib.hid hB; clear hI hK hB))
      go_roundw
      case rel => exact ⟨k + 1, by omega, by go_num, I4.out, K4.out, P4.out⟩
      case measure => simp [intOf]; omega
    · have hk8 : ¬ (k : Int) < 8 := by omega
      obtain rfl : k = 8 := by omega
      have eI : Im.shipsFrom (fun _ => Gm.Ship.none) 8 (8 - 8) ++ (Im.bytesOf 1 0 ++ (Im.bytesOf 4 r.version ++ (Im.seatsFrom r 0 8 ++ rest))) = Im.bytesOf 1 0 ++ (Im.bytesOf 4 r.version ++ (Im.seatsFrom r 0 8 ++ rest)) := rfl
      rw [eI] at hI
      have c5 := Lib.hid (layshots_none_r B 53 _ _ b Bb Bp wr hbB hbP (Nat.le_trans HW.out hK.below.size) hI hB ((Im.cells_g _ _ _ 58 (by omega)).trans (Gm.cells_58 _ _)) (by decide) (by decide) (by decide))
      have HK := Lib.hid hK
      clear hI hK hB eI
      go_upto_region 8 with (go_at_call 127; ((with_reducible refine (c5.out).mono ?_); rintro e w6 ⟨rfl, hI6, hK6, S, hP6⟩; rw [Im.cells_shots'] at hP6; have I6 := Lib.hid hI6; have P6 := Lib.hid hP6; have K6 := Lib.hid (HK.out.trans hK6); clear hI6 hK6 hP6))
      have e59 : (Im.cells (Im.bare f d) (.slice (some ⟨S, 0, none⟩) 0 0) Im.R0)[59]? = some (.int .i64 0) := (Im.cells_r _ _ _ 0).trans (Ros.cells_0 _)
      have c7 := Lib.hid (layint_r 4 4 rfl r.version r.version 0 (by have := HR.out.1; omega) (by have := HR.out.1; omega) B 59 53 _ (Im.seatsFrom r 0 8 ++ rest) b Bb Bp w6 (by decide) hbB hbP (Nat.le_trans HW.out K6.out.below.size) I6.out P6.out e59 (by decide) (by decide) (by decide))
      rw [Im.cells_version, Im.cells_start _ _ _ r rfl] at c7
      clear e59 c5
      go_wp2_with (first | (go_at_call 124; ((with_reducible refine (c7.out).mono ?_); rintro e w7 ⟨rfl, hI, hK, hB⟩; have P7 := Lib.hid hB; have I7 := Lib.hid hI; have K7 := Lib.hid (K6.out.trans hK); clear hI hK hB)))
      go_loopw [41] (fun i wx => ∃ k : Nat, k ≤ 8 ∧ i = .int .i64 k ∧ Rd b Bb Bp (Im.seatsFrom r k (8 - k) ++ rest) wx ∧ Rk b Bb B w wx ∧ Box wx B 53 (Im.cells (Im.bare f d) (.slice (some ⟨S, 0, none⟩) 0 0) (Im.upto r k))) (fun i _ => 8 - (intOf i).toNat)
      case atStart => exact ⟨0, by omega, rfl, I7.out, K7.out, P7.out⟩
      case round =>
        obtain ⟨k, hk, rfl, hI, hK, hB⟩ := hrel
        clear I7 P7 K7 c7
        by_cases hlt : k < 8
        · have hk8 : (k : Int) < 8 := by omega
          have hs := HR.out.seat k hlt
          rw [show 8 - k = (8 - (k + 1)) + 1 by omega] at hI
          have eI : Im.seatsFrom r k (8 - (k + 1) + 1) ++ rest = Im.bytesOf 1 (r.peer k + 1) ++ (Im.bytesOf 2 (r.gen k) ++ (Im.seatsFrom r (k + 1) (8 - (k + 1)) ++ rest)) := by
            show ((Im.bytesOf 1 (r.peer k + 1) ++ Im.bytesOf 2 (r.gen k)) ++ Im.seatsFrom r (k + 1) (8 - (k + 1))) ++ rest = _
            simp only [List.append_assoc]
          rw [eI] at hI
          have ep : (Im.cells (Im.bare f d) (.slice (some ⟨S, 0, none⟩) 0 0) (Im.upto r k))[60 + k * 2]? = some (.int .i64 0) := (Im.cells_peer _ _ _ k hlt).trans (by show some (Value.int .i64 (if k < k then r.peer k else 0)) = _; rw [if_neg (by omega)])
          have eg : (Im.cells (Im.bare f d) (.slice (some ⟨S, 0, none⟩) 0 0) (Im.upto r k))[60 + k * 2 + 1]? = some (.int .i64 0) := (Im.cells_gen _ _ _ k hlt).trans (by show some (Value.int .i64 (if k < k then r.gen k else 0)) = _; rw [if_neg (by omega)])
          have c8 := Lib.hid (layseat_r (r.peer k) (r.gen k) B (60 + k * 2) 53 _ _ b Bb Bp wr ⟨by have := hs.2; omega, by have := hs.2; omega⟩ ⟨by have := hs.1; omega, by have := hs.1; omega⟩ hbB hbP (Nat.le_trans HW.out hK.below.size) hI hB ep eg (by decide) (by decide) (by decide))
          rw [Im.cells_seat _ _ _ k hlt] at c8
          have HK := Lib.hid hK
          clear hI hK hB hs ep eg eI
          go_wp2_with (go_at_call 128; ((with_reducible refine (c8.out).mono ?_); rintro e w9 ⟨rfl, hI, hK, hB⟩; have I9 := Lib.hid hI; have K9 := Lib.hid (HK.out.trans hK); have P9 := Lib.hid hB; clear hI hK hB))
          go_roundw
          case rel => exact ⟨k + 1, by omega, by go_num, I9.out, K9.out, P9.out⟩
          case measure => simp [intOf]; omega
        · have hk8 : ¬ (k : Int) < 8 := by omega
          obtain rfl : k = 8 := by omega
          rw [Im.cells_upto] at hB
          have HI := Lib.hid hI
          have HK := Lib.hid hK
          have HB := Lib.hid hB
          clear hI hK hB
          go_wp2
          go_end0
          exact ⟨rfl, HI.out, HK.out, S, HB.out⟩
end Go.Proofs.Ytbihnmingedgfaa
