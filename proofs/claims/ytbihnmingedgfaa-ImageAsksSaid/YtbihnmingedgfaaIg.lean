/-
The program's image: a whole state is put.
-/
import Derived.Test.YtbihnmingedgfaaIf
import Derived.Test.YtbihnmingedgfaaTa
namespace Go.Proofs.Ytbihnmingedgfaa
open Go.RowKit Go.Shelf
set_option linter.unusedVariables false

/-- The 76 cells of a state whose shots are the slice s. -/
def Im.cells (g : Gm.G) (s : Value) (r : Ros.R) : Array Value := Gm.cells g s ++ Ros.cells r
theorem Im.cells_size (g : Gm.G) (s : Value) (r : Ros.R) : (Im.cells g s r).size = 76 := by unfold Im.cells; rw [Array.size_append, Gm.cells_size, Ros.cells_size]
theorem Im.cells_g (g : Gm.G) (s : Value) (r : Ros.R) (i : Nat) (hi : i < 59) : (Im.cells g s r)[i]? = (Gm.cells g s)[i]? := by
  unfold Im.cells; rw [Array.getElem?_append_left (by rw [Gm.cells_size]; exact hi)]
theorem Im.cells_r (g : Gm.G) (s : Value) (r : Ros.R) (i : Nat) : (Im.cells g s r)[59 + i]? = (Ros.cells r)[i]? := by
  unfold Im.cells; rw [Array.getElem?_append_right (by rw [Gm.cells_size]; omega), Gm.cells_size]; congr 1; omega
theorem Im.cells_ship (g : Gm.G) (s : Value) (r : Ros.R) (k j : Nat) (hk : k < 8) (hj : j < 7) : (Im.cells g s r)[2 + k * 7 + j]? = (g.ship k).cells[j]? :=
  (Im.cells_g g s r _ (by omega)).trans (Gm.cells_ship g s k j hk hj)
theorem Im.cells_peer (g : Gm.G) (s : Value) (r : Ros.R) (k : Nat) (hk : k < 8) : (Im.cells g s r)[60 + k * 2]? = some (.int .i64 (r.peer k)) := by
  rw [show 60 + k * 2 = 59 + (1 + k * 2) by omega, Im.cells_r]; exact Ros.cells_peer r k hk
theorem Im.cells_gen (g : Gm.G) (s : Value) (r : Ros.R) (k : Nat) (hk : k < 8) : (Im.cells g s r)[60 + k * 2 + 1]? = some (.int .i64 (r.gen k)) := by
  rw [show 60 + k * 2 + 1 = 59 + (1 + k * 2 + 1) by omega, Im.cells_r]; exact Ros.cells_gen r k hk
theorem Im.cells_shots (g : Gm.G) (s s' : Value) (r : Ros.R) : (Im.cells g s r).setIfInBounds 58 s' = Im.cells g s' r := by
  unfold Im.cells Gm.cells Ros.cells
  simp only [List.append_toArray, List.setIfInBounds_toArray]
  congr 1
def Im.ships (f : Nat → Gm.Ship) : Nat → List Int
  | 0 => []
  | k + 1 => Im.ships f k ++ Im.ship (f k)
theorem Im.ship_len (s : Gm.Ship) : (Im.ship s).length = if s.on = true then 22 else 1 := by
  unfold Im.ship
  split
  · rw [List.length_append, List.length_append, List.length_append, Im.bytesOf_len, Im.bytesOf_len, Im.bytesOf_len, Im.flight_len]
  · rfl
theorem Im.ship_le (s : Gm.Ship) : (Im.ship s).length ≤ 22 := by rw [Im.ship_len]; split <;> omega
theorem Im.ships_le (f : Nat → Gm.Ship) : ∀ k, (Im.ships f k).length ≤ 22 * k
  | 0 => Nat.le_refl _
  | k + 1 => by
    show (Im.ships f k ++ Im.ship (f k)).length ≤ _
    have := Im.ships_le f k
    have := Im.ship_le (f k)
    rw [List.length_append]; omega
def Im.seats (r : Ros.R) : Nat → List Int
  | 0 => []
  | k + 1 => Im.seats r k ++ (Im.bytesOf 1 (r.peer k + 1) ++ Im.bytesOf 2 (r.gen k))
theorem Im.seats_len (r : Ros.R) : ∀ k, (Im.seats r k).length = 3 * k
  | 0 => rfl
  | k + 1 => by
    show (Im.seats r k ++ _).length = _
    rw [List.length_append, List.length_append, Im.seats_len r k, Im.bytesOf_len, Im.bytesOf_len]; omega
/-- A state's bytes. -/
def Im.put (g : Gm.G) (r : Ros.R) : List Int :=
  Im.bytesOf 4 g.frame ++ (Im.bytesOf 8 g.dice ++ (Im.ships g.ship 8 ++ ((Im.bytesOf 1 g.shots.length ++ Im.shots g.shots) ++ (Im.bytesOf 4 r.version ++ Im.seats r 8))))

theorem layship_w (s : Gm.Ship) (P o : Nat) (t : TypeId) (cs : Array Value) (bs : List Int) (b Bb Bp : Nat) (w : World) (ok : Gm.okShip s) (hbB : b ≤ Bb) (h : Wr b Bb Bp bs w) (hl : bs.length + 22 ≤ 65536) (hP : Box w P t cs) (hc : ∀ j, j < 7 → cs[o + j]? = s.cells[j]?) (h1 : t ≠ 54) (h2 : t ≠ 5) (h3 : t ≠ 120) :
    Calls Try.prog 126 #[.func (.func 129) #[] #[.pointer (some ⟨Bp, 0, none⟩)], .pointer (some ⟨P, o, none⟩)] w fun e w' => e = .returned (.tuple #[]) ∧ Wr b Bb Bp (bs ++ Im.ship s) w' ∧ Wrote b Bb w w' := by
  obtain ⟨on, x, y, vx, vy, cool, score⟩ := s
  have s0 := hc 0 (by omega)
  have s1 := hc 1 (by omega)
  have s2 := hc 2 (by omega)
  have s3 := hc 3 (by omega)
  have s4 := hc 4 (by omega)
  have s5 := hc 5 (by omega)
  have s6 := hc 6 (by omega)
  simp only [Gm.Ship.cells, List.getElem?_cons_zero, List.getElem?_cons_succ, Nat.add_zero] at s0 s1 s2 s3 s4 s5 s6
  obtain ⟨w0, ⟨w2, w2'⟩, ⟨w3, w3'⟩, ⟨w4, w4'⟩, ⟨w5, w5'⟩, w6, w6', w7, w7'⟩ := ok
  dsimp only at w0 w2 w2' w3 w3' w4 w4' w5 w5' w6 w6' w7 w7'
  cases on
  · exact layship_off P o t cs bs b Bb Bp w hbB h (by omega) hP s0 h1 h2 h3
  · exact layship_on x y vx vy cool score P o t cs bs b Bb Bp w hbB h hl hP s0 s1 s2 s3 s4 s5 s6 (by omega) (by omega) (by omega) (by omega) ⟨w6, w6'⟩ ⟨w7, w7'⟩ h1 h2 h3

set_option maxRecDepth 100000 in
set_option maxHeartbeats 4000000 in
theorem laystate_w (g : Gm.G) (r : Ros.R) (n : Nat) (A : Option Addr) (c B : Nat) (bs : List Int) (b Bb Bp : Nat) (w : World) (hn : n = g.shots.length) (hg : Gm.ok g) (hd : 0 ≤ g.dice ∧ g.dice ≤ 18446744073709551615) (hr : Ros.Ok r) (hbB : b ≤ Bb) (hbP : b ≤ B) (hbw : b ≤ w.heap.size) (h : Wr b Bb Bp bs w) (hl : bs.length ≤ 64000) (hP : Box w B 53 (Im.cells g (.slice A n c) r))
    (hL : Lies w b 6 A n (Gm.shotCells g.shots)) :
    Calls Try.prog 78 #[.func (.func 129) #[] #[.pointer (some ⟨Bp, 0, none⟩)], .pointer (some ⟨B, 0, none⟩)] w fun e w' => e = .returned (.tuple #[]) ∧ Wr b Bb Bp (bs ++ Im.put g r) w' ∧ Below b w w' ∧ Kb B w w' := by
  have hw0 : IntKind.u64.wrap g.frame = g.frame := by rw [IntKind.wrap_u64]; have := hg.1; have := hg.2.1; omega
  have hw59 : IntKind.u64.wrap r.version = r.version := by rw [IntKind.wrap_u64]; have := hr.1; omega
  have e0 : (Im.cells g (.slice A n c) r)[0]? = some (.int .i64 g.frame) := (Im.cells_g _ _ _ 0 (by omega)).trans (Gm.cells_0 _ _)
  have e1 : (Im.cells g (.slice A n c) r)[1]? = some (.int .u64 g.dice) := (Im.cells_g _ _ _ 1 (by omega)).trans (Gm.cells_1 _ _)
  have c1 := Lib.hid (layint_w 4 4 rfl g.frame B 0 53 _ bs b Bb Bp w (by decide) (by have := hg.1; have := hg.2.1; omega) hbB h (by omega) hP e0 (by decide) (by decide) (by decide))
  rw [hw0] at c1
  have c2 := fun X (hX : Wr b Bb Bp (bs ++ Im.bytesOf 4 g.frame) X) (hB : Box X B 53 (Im.cells g (.slice A n c) r)) => Lib.hid (layu64_w 8 8 rfl g.dice B 1 53 _ _ b Bb Bp X (by decide) hd hbB hX (by rw [List.length_append, Im.bytesOf_len]; omega) hB e1 (by decide) (by decide) (by decide))
  have IV0 := Lib.hid h.isvar
  have P0 := Lib.hid hP
  have K0 := Lib.hid (Wrote.refl hbB w)
  have LL := Lib.hid hL
  have HG := Lib.hid hg
  have HR := Lib.hid hr
  have NL := Lib.hid hn
  have HV := Lib.hid hw59
  have ltP := hP.lt
  clear h hP hL hn hg hr hw0 hw59 e0 e1
  go_enter Try.func78, Try.ntmps78
  go_wp2_with (first | (go_at_call 124; ((with_reducible refine (c1.out).mono ?_); rintro e w1 ⟨rfl, hI, hK⟩; have P1 := Lib.hid (P0.out.wrote' hK IV0.out (by decide) (by decide)); have IV1 := Lib.hid hI.isvar; have I1 := Lib.hid hI; have K1 := Lib.hid (K0.out.trans hK); clear hI hK)) | (go_at_call 125; ((with_reducible refine ((c2 _ I1.out P1.out).out).mono ?_); rintro e w2 ⟨rfl, hI, hK⟩; have P2 := Lib.hid (P1.out.wrote' hK IV1.out (by decide) (by decide)); have IV2 := Lib.hid hI.isvar; have I2 := Lib.hid hI; have K2 := Lib.hid (K1.out.trans hK); clear hI hK)))
  go_loopw [18] (fun i wr => ∃ k : Nat, k ≤ 8 ∧ i = .int .i64 k ∧ Wr b Bb Bp (bs ++ Im.bytesOf 4 g.frame ++ Im.bytesOf 8 g.dice ++ Im.ships g.ship k) wr ∧ Wrote b Bb w wr) (fun i _ => 8 - (intOf i).toNat)
  case atStart => exact ⟨0, by omega, rfl, by simpa [Im.ships] using I2.out, K2.out⟩
  case round =>
    obtain ⟨k, hk, rfl, hI, hK⟩ := hrel
    clear I1 P1 IV1 K1 I2 P2 IV2 K2 c1 c2
    by_cases hlt : k < 8
    · have hk8 : (k : Int) < 8 := by omega
      have P3 := P0.out.wrote' hK IV0.out (by decide) (by decide)
      have hsl := Im.ships_le g.ship k
      have c3 := Lib.hid (layship_w (g.ship k) B (2 + k * 7) 53 _ _ b Bb Bp wr (HG.out.2.2.2.1 k hlt) hbB hI (by rw [List.length_append, List.length_append, List.length_append, Im.bytesOf_len, Im.bytesOf_len]; omega) P3 (fun j hj => Im.cells_ship g _ r k j hlt hj) (by decide) (by decide) (by decide))
      have HSN := Lib.hid (show bs ++ Im.bytesOf 4 g.frame ++ Im.bytesOf 8 g.dice ++ Im.ships g.ship k ++ Im.ship (g.ship k) = bs ++ Im.bytesOf 4 g.frame ++ Im.bytesOf 8 g.dice ++ Im.ships g.ship (k + 1) by simp [Im.ships])
      have HK := Lib.hid hK
      clear hI hK P3
      go_wp2_with (go_at_call 126; ((with_reducible refine (c3.out).mono ?_); rintro e w4 ⟨rfl, hI, hK⟩; have I4 := Lib.hid hI; have K4 := Lib.hid (HK.out.trans hK); clear hI hK))
      go_roundw
      case rel => exact ⟨k + 1, by omega, by go_num, by rw [← HSN.out]; exact I4.out, K4.out⟩
      case measure => simp [intOf]; omega
    · have hk8 : ¬ (k : Int) < 8 := by omega
      obtain rfl : k = 8 := by omega
      have P3 := P0.out.wrote' hK IV0.out (by decide) (by decide)
      have hsl := Im.ships_le g.ship 8
      have hn32 : g.shots.length ≤ 32 := HG.out.2.2.1
      have hshl := Im.shots_len g.shots
      have c5 := Lib.hid (layshots_w g.shots n A c B 53 (Im.cells g (.slice A n c) r) _ b Bb Bp wr NL.out (by have := NL.out; omega) HG.out.way.shots hbB hbP (Nat.le_trans hbw hK.size) hI (by rw [List.length_append, List.length_append, List.length_append, Im.bytesOf_len, Im.bytesOf_len]; omega) P3 ((Im.cells_g _ _ _ 58 (by omega)).trans (Gm.cells_58 _ _)) (LL.out.below (hK.to hbw)) (by decide) (by decide) (by decide) (by decide))
      have lens : (bs ++ Im.bytesOf 4 g.frame ++ Im.bytesOf 8 g.dice ++ Im.ships g.ship 8 ++ (Im.bytesOf 1 n ++ Im.shots g.shots)).length ≤ 65000 := by
        rw [List.length_append, List.length_append, List.length_append, List.length_append, List.length_append, Im.bytesOf_len, Im.bytesOf_len, Im.bytesOf_len, hshl]; omega
      have HN := Lib.hid (show bs ++ Im.put g r = bs ++ Im.bytesOf 4 g.frame ++ Im.bytesOf 8 g.dice ++ Im.ships g.ship 8 ++ (Im.bytesOf 1 n ++ Im.shots g.shots) ++ Im.bytesOf 4 r.version ++ Im.seats r 8 by rw [NL.out]; simp [Im.put])
      generalize hbk : bs ++ Im.bytesOf 4 g.frame ++ Im.bytesOf 8 g.dice ++ Im.ships g.ship 8 ++ (Im.bytesOf 1 n ++ Im.shots g.shots) = bk at *
      have B3 := Lib.hid (hK.to hbw)
      have Q3 := Lib.hid ((Kb.refl (B := B) w).wrote hK IV0.out)
      clear hI hK P3 hbk hshl hsl hn32 P0 K0 LL
      go_upto_region 8 with (go_at_call 127; ((with_reducible refine (c5.out).mono ?_); rintro e w6 ⟨rfl, hI6, hB6, hK6, S, hP6⟩; rw [Im.cells_shots] at hP6; have I6 := Lib.hid hI6; have P6 := Lib.hid hP6; have B6 := Lib.hid (B3.out.trans hB6); have Q6 := Lib.hid (Q3.out.trans hK6); clear hI6 hB6 hK6 hP6))
      have e59 : (Im.cells g (.slice (some ⟨S, 0, none⟩) n n) r)[59]? = some (.int .i64 r.version) := (Im.cells_r _ _ _ 0).trans (Ros.cells_0 _)
      have c7 := Lib.hid (layint_w 4 4 rfl r.version B 59 53 _ bk b Bb Bp w6 (by decide) (by have := HR.out.1; omega) hbB I6.out (by omega) P6.out e59 (by decide) (by decide) (by decide))
      rw [HV.out] at c7
      have IV6 := Lib.hid I6.out.isvar
      have K6 := Lib.hid (Wrote.refl hbB w6)
      clear e59 c5
      go_wp2_with (first | (go_at_call 124; ((with_reducible refine (c7.out).mono ?_); rintro e w7 ⟨rfl, hI, hK⟩; have P7 := Lib.hid (P6.out.wrote' hK IV6.out (by decide) (by decide)); have IV7 := Lib.hid hI.isvar; have I7 := Lib.hid hI; have K7 := Lib.hid (K6.out.trans hK); clear hI hK)))
      go_loopw [41] (fun i wx => ∃ k : Nat, k ≤ 8 ∧ i = .int .i64 k ∧ Wr b Bb Bp (bk ++ Im.bytesOf 4 r.version ++ Im.seats r k) wx ∧ Wrote b Bb w6 wx) (fun i _ => 8 - (intOf i).toNat)
      case atStart => exact ⟨0, by omega, rfl, by simpa [Im.seats] using I7.out, K7.out⟩
      case round =>
        obtain ⟨k, hk, rfl, hI, hK⟩ := hrel
        clear I7 P7 IV7 K7 c7
        by_cases hlt : k < 8
        · have hk8 : (k : Int) < 8 := by omega
          have P8 := P6.out.wrote' hK IV6.out (by decide) (by decide)
          have hsl := Im.seats_len r k
          have hs := HR.out.seat k hlt
          have c8 := Lib.hid (layseat_w (r.peer k) (r.gen k) B (60 + k * 2) 53 _ _ b Bb Bp wr ⟨by have := hs.2; omega, by have := hs.2; omega⟩ hs.1 hbB hI (by rw [List.length_append, List.length_append, Im.bytesOf_len]; omega) P8 (Im.cells_peer g _ r k hlt) (Im.cells_gen g _ r k hlt) (by decide) (by decide) (by decide))
          have HSN := Lib.hid (show bk ++ Im.bytesOf 4 r.version ++ Im.seats r k ++ (Im.bytesOf 1 (r.peer k + 1) ++ Im.bytesOf 2 (r.gen k)) = bk ++ Im.bytesOf 4 r.version ++ Im.seats r (k + 1) by simp [Im.seats])
          have HK := Lib.hid hK
          clear hI hK P8 hs hsl
          go_wp2_with (go_at_call 128; ((with_reducible refine (c8.out).mono ?_); rintro e w9 ⟨rfl, hI, hK⟩; have I9 := Lib.hid hI; have K9 := Lib.hid (HK.out.trans hK); clear hI hK))
          go_roundw
          case rel => exact ⟨k + 1, by omega, by go_num, by rw [← HSN.out]; exact I9.out, K9.out⟩
          case measure => simp [intOf]; omega
        · have hk8 : ¬ (k : Int) < 8 := by omega
          obtain rfl : k = 8 := by omega
          have HI := Lib.hid hI
          have HK := Lib.hid hK
          clear hI hK
          go_wp2
          go_end0
          exact ⟨rfl, by rw [HN.out]; exact HI.out, B6.out.trans (HK.out.to (Nat.le_trans hbw B6.out.size)), Q6.out.wrote HK.out IV6.out⟩
end Go.Proofs.Ytbihnmingedgfaa
