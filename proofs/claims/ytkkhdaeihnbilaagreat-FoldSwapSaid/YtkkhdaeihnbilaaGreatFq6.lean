/-
Several texts in one: Ig Eq Ih Ii Ij Im In Nr En Hm Hn.
-/
import Derived.Test.YtkkhdaeihnbilaaGreatFq5
namespace Go.Proofs.YtkkhdaeihnbilaaGreat
open Go.RowKit Go.Shelf
set_option linter.unusedVariables false

/-- The 76 cells of a state whose shots are the slice s. -/
def Im.cells (g : Gm.G) (s : Value) (r : Ros.R) : Array Value := Gm.cells g s ++ Ros.cells r
theorem Im.cells_size (g : Gm.G) (s : Value) (r : Ros.R) : (Im.cells g s r).size = 76 := by unfold Im.cells; rw [Array.size_append, Gm.cells_size, Ros.cells_size]
theorem Im.cells_g (g : Gm.G) (s : Value) (r : Ros.R) (i : Nat) (hi : i < 59) : (Im.cells g s r)[i]? = (Gm.cells g s)[i]? := by
  unfold Im.cells; rw [Array.getElem?_append_left (by rw [Gm.cells_size]; exact hi)]
theorem Im.cells_r (g : Gm.G) (s : Value) (r : Ros.R) (i : Nat) : (Im.cells g s r)[59 + i]? = (Ros.cells r)[i]? := by
  unfold Im.cells; rw [Array.getElem?_append_right (by rw [Gm.cells_size]; omega), Gm.cells_size]; congr 1; omega
theorem Im.cells_ship (g : Gm.G) (s : Value) (r : Ros.R) (k j : Nat) (hk : k < 8) (hj : j < 7) : (Im.cells g s r)[2 + k * 7 + j]? = (g.ship k).cells[j]? :=
  (Im.cells_g g s r _ (by omega)).trans (Gm.cells_ship g s k j hk hj)
theorem Im.cells_peer (g : Gm.G) (s : Value) (r : Ros.R) (k : Nat) (hk : k < 8) : (Im.cells g s r)[60 + k * 2]? = some (.int .i64 (r.peer k)) := by
  rw [show 60 + k * 2 = 59 + (1 + k * 2) by omega, Im.cells_r]; exact Ros.cells_peer r k hk
theorem Im.cells_gen (g : Gm.G) (s : Value) (r : Ros.R) (k : Nat) (hk : k < 8) : (Im.cells g s r)[60 + k * 2 + 1]? = some (.int .i64 (r.gen k)) := by
  rw [show 60 + k * 2 + 1 = 59 + (1 + k * 2 + 1) by omega, Im.cells_r]; exact Ros.cells_gen r k hk
theorem Im.cells_shots (g : Gm.G) (s s' : Value) (r : Ros.R) : (Im.cells g s r).setIfInBounds 58 s' = Im.cells g s' r := by
  unfold Im.cells Gm.cells Ros.cells
  simp only [List.append_toArray, List.setIfInBounds_toArray]
  congr 1
def Im.ships (f : Nat → Gm.Ship) : Nat → List Int
  | 0 => []
  | k + 1 => Im.ships f k ++ Im.ship (f k)
theorem Im.ship_len (s : Gm.Ship) : (Im.ship s).length = if s.on = true then 22 else 1 := by
  unfold Im.ship
  split
  · rw [List.length_append, List.length_append, List.length_append, Im.bytesOf_len, Im.bytesOf_len, Im.bytesOf_len, Im.flight_len]
  · rfl
theorem Im.ship_le (s : Gm.Ship) : (Im.ship s).length ≤ 22 := by rw [Im.ship_len]; split <;> omega
theorem Im.ships_le (f : Nat → Gm.Ship) : ∀ k, (Im.ships f k).length ≤ 22 * k
  | 0 => Nat.le_refl _
  | k + 1 => by
    show (Im.ships f k ++ Im.ship (f k)).length ≤ _
    have := Im.ships_le f k
    have := Im.ship_le (f k)
    rw [List.length_append]; omega
def Im.seats (r : Ros.R) : Nat → List Int
  | 0 => []
  | k + 1 => Im.seats r k ++ (Im.bytesOf 1 (r.peer k + 1) ++ Im.bytesOf 2 (r.gen k))
theorem Im.seats_len (r : Ros.R) : ∀ k, (Im.seats r k).length = 3 * k
  | 0 => rfl
  | k + 1 => by
    show (Im.seats r k ++ _).length = _
    rw [List.length_append, List.length_append, Im.seats_len r k, Im.bytesOf_len, Im.bytesOf_len]; omega
/-- A state's bytes. -/
def Im.put (g : Gm.G) (r : Ros.R) : List Int :=
  Im.bytesOf 4 g.frame ++ (Im.bytesOf 8 g.dice ++ (Im.ships g.ship 8 ++ ((Im.bytesOf 1 g.shots.length ++ Im.shots g.shots) ++ (Im.bytesOf 4 r.version ++ Im.seats r 8))))

theorem layship_w (s : Gm.Ship) (P o : Nat) (t : TypeId) (cs : Array Value) (bs : List Int) (b Bb Bp : Nat) (w : World) (ok : Gm.okShip s) (hbB : b ≤ Bb) (h : Wr b Bb Bp bs w) (hl : bs.length + 22 ≤ 65536) (hP : Box w P t cs) (hc : ∀ j, j < 7 → cs[o + j]? = s.cells[j]?) (h1 : t ≠ 72) (h2 : t ≠ 5) (h3 : t ≠ 115) :
    Calls Tryz.prog 114 #[.func (.func 117) #[] #[.pointer (some ⟨Bp, 0, none⟩)], .pointer (some ⟨P, o, none⟩)] w fun e w' => e = .returned (.tuple #[]) ∧ Wr b Bb Bp (bs ++ Im.ship s) w' ∧ Wrote b Bb w w' := by
  obtain ⟨on, x, y, vx, vy, cool, score⟩ := s
  have s0 := hc 0 (by omega)
  have s1 := hc 1 (by omega)
  have s2 := hc 2 (by omega)
  have s3 := hc 3 (by omega)
  have s4 := hc 4 (by omega)
  have s5 := hc 5 (by omega)
  have s6 := hc 6 (by omega)
  simp only [Gm.Ship.cells, List.getElem?_cons_zero, List.getElem?_cons_succ, Nat.add_zero] at s0 s1 s2 s3 s4 s5 s6
  obtain ⟨w0, ⟨w2, w2'⟩, ⟨w3, w3'⟩, ⟨w4, w4'⟩, ⟨w5, w5'⟩, w6, w6', w7, w7'⟩ := ok
  dsimp only at w0 w2 w2' w3 w3' w4 w4' w5 w5' w6 w6' w7 w7'
  cases on
  · exact layship_off P o t cs bs b Bb Bp w hbB h (by omega) hP s0 h1 h2 h3
  · exact layship_on x y vx vy cool score P o t cs bs b Bb Bp w hbB h hl hP s0 s1 s2 s3 s4 s5 s6 (by omega) (by omega) (by omega) (by omega) ⟨w6, w6'⟩ ⟨w7, w7'⟩ h1 h2 h3

set_option maxRecDepth 100000 in
set_option maxHeartbeats 4000000 in
theorem laystate_w (g : Gm.G) (r : Ros.R) (n : Nat) (A : Option Addr) (c B : Nat) (bs : List Int) (b Bb Bp : Nat) (w : World) (hn : n = g.shots.length) (hg : Gm.ok g) (hd : 0 ≤ g.dice ∧ g.dice ≤ 18446744073709551615) (hr : Ros.Ok r) (hbB : b ≤ Bb) (hbP : b ≤ B) (hbw : b ≤ w.heap.size) (h : Wr b Bb Bp bs w) (hl : bs.length ≤ 64000) (hP : Box w B 35 (Im.cells g (.slice A n c) r))
    (hL : Lies w b 6 A n (Gm.shotCells g.shots)) :
    Calls Tryz.prog 74 #[.func (.func 117) #[] #[.pointer (some ⟨Bp, 0, none⟩)], .pointer (some ⟨B, 0, none⟩)] w fun e w' => e = .returned (.tuple #[]) ∧ Wr b Bb Bp (bs ++ Im.put g r) w' ∧ Below b w w' ∧ Kb B w w' := by
  have hw0 : IntKind.u64.wrap g.frame = g.frame := by rw [IntKind.wrap_u64]; have := hg.1; have := hg.2.1; omega
  have hw59 : IntKind.u64.wrap r.version = r.version := by rw [IntKind.wrap_u64]; have := hr.1; omega
  have e0 : (Im.cells g (.slice A n c) r)[0]? = some (.int .i64 g.frame) := (Im.cells_g _ _ _ 0 (by omega)).trans (Gm.cells_0 _ _)
  have e1 : (Im.cells g (.slice A n c) r)[1]? = some (.int .u64 g.dice) := (Im.cells_g _ _ _ 1 (by omega)).trans (Gm.cells_1 _ _)
  have c1 := Lib.hid (layint_w 4 4 rfl g.frame B 0 35 _ bs b Bb Bp w (by decide) (by have := hg.1; have := hg.2.1; omega) hbB h (by omega) hP e0 (by decide) (by decide) (by decide))
  rw [hw0] at c1
  have c2 := fun X (hX : Wr b Bb Bp (bs ++ Im.bytesOf 4 g.frame) X) (hB : Box X B 35 (Im.cells g (.slice A n c) r)) => Lib.hid (layu64_w 8 8 rfl g.dice B 1 35 _ _ b Bb Bp X (by decide) hd hbB hX (by rw [List.length_append, Im.bytesOf_len]; omega) hB e1 (by decide) (by decide) (by decide))
  have IV0 := Lib.hid h.isvar
  have P0 := Lib.hid hP
  have K0 := Lib.hid (Wrote.refl hbB w)
  have LL := Lib.hid hL
  have HG := Lib.hid hg
  have HR := Lib.hid hr
  have NL := Lib.hid hn
  have HV := Lib.hid hw59
  have ltP := hP.lt
  clear h hP hL hn hg hr hw0 hw59 e0 e1
  go_enter Tryz.func74, Tryz.ntmps74
  go_wp2_with (first | (go_at_call 112; ((with_reducible refine (c1.out).mono ?_); rintro e w1 ⟨rfl, hI, hK⟩; have P1 := Lib.hid (P0.out.wrote' hK IV0.out (by decide) (by decide)); have IV1 := Lib.hid hI.isvar; have I1 := Lib.hid hI; have K1 := Lib.hid (K0.out.trans hK); clear hI hK)) | (go_at_call 113; ((with_reducible refine ((c2 _ I1.out P1.out).out).mono ?_); rintro e w2 ⟨rfl, hI, hK⟩; have P2 := Lib.hid (P1.out.wrote' hK IV1.out (by decide) (by decide)); have IV2 := Lib.hid hI.isvar; have I2 := Lib.hid hI; have K2 := Lib.hid (K1.out.trans hK); clear hI hK)))
  go_loopw [18] (fun i wr => ∃ k : Nat, k ≤ 8 ∧ i = .int .i64 k ∧ Wr b Bb Bp (bs ++ Im.bytesOf 4 g.frame ++ Im.bytesOf 8 g.dice ++ Im.ships g.ship k) wr ∧ Wrote b Bb w wr) (fun i _ => 8 - (intOf i).toNat)
  case atStart => exact ⟨0, by omega, rfl, by simpa [Im.ships] using I2.out, K2.out⟩
  case round =>
    obtain ⟨k, hk, rfl, hI, hK⟩ := hrel
    clear I1 P1 IV1 K1 I2 P2 IV2 K2 c1 c2
    by_cases hlt : k < 8
    · have hk8 : (k : Int) < 8 := by omega
      have P3 := P0.out.wrote' hK IV0.out (by decide) (by decide)
      have hsl := Im.ships_le g.ship k
      have c3 := Lib.hid (layship_w (g.ship k) B (2 + k * 7) 35 _ _ b Bb Bp wr (HG.out.2.2.2.1 k hlt) hbB hI (by rw [List.length_append, List.length_append, List.length_append, Im.bytesOf_len, Im.bytesOf_len]; omega) P3 (fun j hj => Im.cells_ship g _ r k j hlt hj) (by decide) (by decide) (by decide))
      have HSN := Lib.hid (show bs ++ Im.bytesOf 4 g.frame ++ Im.bytesOf 8 g.dice ++ Im.ships g.ship k ++ Im.ship (g.ship k) = bs ++ Im.bytesOf 4 g.frame ++ Im.bytesOf 8 g.dice ++ Im.ships g.ship (k + 1) by simp [Im.ships])
      have HK := Lib.hid hK
      clear hI hK P3
      go_wp2_with (go_at_call 114; ((with_reducible refine (c3.out).mono ?_); rintro e w4 ⟨rfl, hI, hK⟩; have I4 := Lib.hid hI; have K4 := Lib.hid (HK.out.trans hK); clear hI hK))
      go_roundw
      case rel => exact ⟨k + 1, by omega, by go_num, by rw [← HSN.out]; exact I4.out, K4.out⟩
      case measure => simp [intOf]; omega
    · have hk8 : ¬ (k : Int) < 8 := by omega
      obtain rfl : k = 8 := by omega
      have P3 := P0.out.wrote' hK IV0.out (by decide) (by decide)
      have hsl := Im.ships_le g.ship 8
      have hn32 : g.shots.length ≤ 32 := HG.out.2.2.1
      have hshl := Im.shots_len g.shots
      have c5 := Lib.hid (layshots_w g.shots n A c B 35 (Im.cells g (.slice A n c) r) _ b Bb Bp wr NL.out (by have := NL.out; omega) HG.out.way.shots hbB hbP (Nat.le_trans hbw hK.size) hI (by rw [List.length_append, List.length_append, List.length_append, Im.bytesOf_len, Im.bytesOf_len]; omega) P3 ((Im.cells_g _ _ _ 58 (by omega)).trans (Gm.cells_58 _ _)) (LL.out.below (hK.to hbw)) (by decide) (by decide) (by decide) (by decide))
      have lens : (bs ++ Im.bytesOf 4 g.frame ++ Im.bytesOf 8 g.dice ++ Im.ships g.ship 8 ++ (Im.bytesOf 1 n ++ Im.shots g.shots)).length ≤ 65000 := by
        rw [List.length_append, List.length_append, List.length_append, List.length_append, List.length_append, Im.bytesOf_len, Im.bytesOf_len, Im.bytesOf_len, hshl]; omega
      have HN := Lib.hid (show bs ++ Im.put g r = bs ++ Im.bytesOf 4 g.frame ++ Im.bytesOf 8 g.dice ++ Im.ships g.ship 8 ++ (Im.bytesOf 1 n ++ Im.shots g.shots) ++ Im.bytesOf 4 r.version ++ Im.seats r 8 by rw [NL.out]; simp [Im.put])
      generalize hbk : bs ++ Im.bytesOf 4 g.frame ++ Im.bytesOf 8 g.dice ++ Im.ships g.ship 8 ++ (Im.bytesOf 1 n ++ Im.shots g.shots) = bk at *
      have B3 := Lib.hid (hK.to hbw)
      have Q3 := Lib.hid ((Kb.refl (B := B) w).wrote hK IV0.out)
      clear hI hK P3 hbk hshl hsl hn32 P0 K0 LL
      go_upto_region 8 with (go_at_call 115; ((with_reducible refine (c5.out).mono ?_); rintro e w6 ⟨rfl, hI6, hB6, hK6, S, hP6⟩; rw [Im.cells_shots] at hP6; have I6 := Lib.hid hI6; have P6 := Lib.hid hP6; have B6 := Lib.hid (B3.out.trans hB6); have Q6 := Lib.hid (Q3.out.trans hK6); clear hI6 hB6 hK6 hP6))
      have e59 : (Im.cells g (.slice (some ⟨S, 0, none⟩) n n) r)[59]? = some (.int .i64 r.version) := (Im.cells_r _ _ _ 0).trans (Ros.cells_0 _)
      have c7 := Lib.hid (layint_w 4 4 rfl r.version B 59 35 _ bk b Bb Bp w6 (by decide) (by have := HR.out.1; omega) hbB I6.out (by omega) P6.out e59 (by decide) (by decide) (by decide))
      rw [HV.out] at c7
      have IV6 := Lib.hid I6.out.isvar
      have K6 := Lib.hid (Wrote.refl hbB w6)
      clear e59 c5
      go_wp2_with (first | (go_at_call 112; ((with_reducible refine (c7.out).mono ?_); rintro e w7 ⟨rfl, hI, hK⟩; have P7 := Lib.hid (P6.out.wrote' hK IV6.out (by decide) (by decide)); have IV7 := Lib.hid hI.isvar; have I7 := Lib.hid hI; have K7 := Lib.hid (K6.out.trans hK); clear hI hK)))
      go_loopw [41] (fun i wx => ∃ k : Nat, k ≤ 8 ∧ i = .int .i64 k ∧ Wr b Bb Bp (bk ++ Im.bytesOf 4 r.version ++ Im.seats r k) wx ∧ Wrote b Bb w6 wx) (fun i _ => 8 - (intOf i).toNat)
      case atStart => exact ⟨0, by omega, rfl, by simpa [Im.seats] using I7.out, K7.out⟩
      case round =>
        obtain ⟨k, hk, rfl, hI, hK⟩ := hrel
        clear I7 P7 IV7 K7 c7
        by_cases hlt : k < 8
        · have hk8 : (k : Int) < 8 := by omega
          have P8 := P6.out.wrote' hK IV6.out (by decide) (by decide)
          have hsl := Im.seats_len r k
          have hs := HR.out.seat k hlt
          have c8 := Lib.hid (layseat_w (r.peer k) (r.gen k) B (60 + k * 2) 35 _ _ b Bb Bp wr ⟨by have := hs.2; omega, by have := hs.2; omega⟩ hs.1 hbB hI (by rw [List.length_append, List.length_append, Im.bytesOf_len]; omega) P8 (Im.cells_peer g _ r k hlt) (Im.cells_gen g _ r k hlt) (by decide) (by decide) (by decide))
          have HSN := Lib.hid (show bk ++ Im.bytesOf 4 r.version ++ Im.seats r k ++ (Im.bytesOf 1 (r.peer k + 1) ++ Im.bytesOf 2 (r.gen k)) = bk ++ Im.bytesOf 4 r.version ++ Im.seats r (k + 1) by simp [Im.seats])
          have HK := Lib.hid hK
          clear hI hK P8 hs hsl
          go_wp2_with (go_at_call 116; ((with_reducible refine (c8.out).mono ?_); rintro e w9 ⟨rfl, hI, hK⟩; have I9 := Lib.hid hI; have K9 := Lib.hid (HK.out.trans hK); clear hI hK))
          go_roundw
          case rel => exact ⟨k + 1, by omega, by go_num, by rw [← HSN.out]; exact I9.out, K9.out⟩
          case measure => simp [intOf]; omega
        · have hk8 : ¬ (k : Int) < 8 := by omega
          obtain rfl : k = 8 := by omega
          have HI := Lib.hid hI
          have HK := Lib.hid hK
          clear hI hK
          go_wp2
          go_end0
          exact ⟨rfl, by rw [HN.out]; exact HI.out, B6.out.trans (HK.out.to (Nat.le_trans hbw B6.out.size)), Q6.out.wrote HK.out IV6.out⟩
end Go.Proofs.YtkkhdaeihnbilaaGreat
namespace Go.Proofs.YtkkhdaeihnbilaaGreat
open Go.RowKit
set_option linter.unusedVariables false

theorem ifs7 (w : World) (a b c d e f g : Bool) : (if a = true then if b = true then if c = true then if d = true then if e = true then if f = true then if g = true then Result.ok true w else Result.ok false w else Result.ok false w else Result.ok false w else Result.ok false w else Result.ok false w else Result.ok false w else Result.ok false w) = Result.ok (a && (b && (c && (d && (e && (f && g)))))) w := by
  cases a <;> cases b <;> cases c <;> cases d <;> cases e <;> cases f <;> cases g <;> rfl
set_option maxHeartbeats 1000000 in
theorem ship_eq (s t : Gm.Ship) (w : World) : (Op.equalIn 9999 24 (.agg s.cells.toArray) (.agg t.cells.toArray)).run Tryz.prog w = .ok (s.eqB t) w := by
  obtain ⟨a1, a2, a3, a4, a5, a6, a7⟩ := s
  obtain ⟨b1, b2, b3, b4, b5, b6, b7⟩ := t
  have h := ifs7 w (a1 == b1) (a2 == b2) (a3 == b3) (a4 == b4) (a5 == b5) (a6 == b6) (a7 == b7)
  simp only [beq_iff_eq] at h
  simp only [Gm.Ship.cells]
  go_simp
  rfl
theorem ship_info : (Tryz.prog.info? 24).map (·.size) = some 7 := by kernel_rfl
set_option maxHeartbeats 1000000 in
theorem ship_part (f : Nat → Gm.Ship) (i : Nat) (hi : i < 8) (w : World) : (part 24 (Gm.shipCells f).toArray (i * 7)).run Tryz.prog w = .ok (.agg (f i).cells.toArray) w := by
  have h := Gm.shipCells_list f i hi
  cases hq : Tryz.prog.info? 24 with
  | none => have := ship_info; simp [hq] at this
  | some j =>
    have hs : j.size = 7 := by have := ship_info; simpa [hq] using this
    simp [part, isAgg, sizeOf, typeInfo, hq, hs, run_underlying (Tryz.underlying24) w, h]
theorem ships_eq (f g : Nat → Gm.Ship) (w : World) : (Op.equalIn 10000 25 (.agg (Gm.shipCells f).toArray) (.agg (Gm.shipCells g).toArray)).run Tryz.prog w = .ok (Gm.shipsEq f g) w := by
  cases hq : Tryz.prog.info? 24 with
  | none => have := ship_info; simp [hq] at this
  | some j =>
    have hs : Tryz.prog.cellsOf 24 = 7 := by kernel_rfl
    rw [run_equalIn_array w 9999 _ _ Tryz.underlying25 hq, hs]
    exact run_eqItems_all w 9999 _ 7 _ _ (fun i => .agg (f i).cells.toArray) (fun i => .agg (g i).cells.toArray) (fun i => (f i).eqB (g i)) (List.range 8)
      (fun i hi => ⟨ship_part f i (by simpa using hi) w, ship_part g i (by simpa using hi) w, ship_eq _ _ w⟩)
theorem ships_neq (f g : Nat → Gm.Ship) (w : World) : (binOp .neq 25 (.agg (Gm.shipCells f).toArray) (.agg (Gm.shipCells g).toArray)).run Tryz.prog w = .ok (.bool (!Gm.shipsEq f g)) w := by
  simp only [binOp]
  simp [Op.equal, Op.maxDepth, ships_eq]
theorem ships_eql (f g : Nat → Gm.Ship) (w : World) : (binOp .eql 25 (.agg (Gm.shipCells f).toArray) (.agg (Gm.shipCells g).toArray)).run Tryz.prog w = .ok (.bool (Gm.shipsEq f g)) w := by
  simp only [binOp]
  simp [Op.equal, Op.maxDepth, ships_eq]
end Go.Proofs.YtkkhdaeihnbilaaGreat
namespace Go.Proofs.YtkkhdaeihnbilaaGreat
open Go.RowKit
set_option linter.unusedVariables false
set_option linter.unusedSimpArgs false

def Gm.inB (a : Int) : Bool := decide (Gf.wrap a = a)
theorem Gm.inB_iff {a : Int} : Gm.inB a = true ↔ Gm.inF a := by unfold Gm.inB Gm.inF Gf.wrap; simp; omega
def Gm.slowB (a m : Int) : Bool := decide (Fx.clamp a (-m) m = a)
theorem Gm.slowB_iff {a m : Int} (hm : 0 ≤ m) : Gm.slowB a m = true ↔ Gm.slow a m := by unfold Gm.slowB Gm.slow Fx.clamp; simp; omega

set_option maxHeartbeats 1000000 in
theorem there_any (x y : Int) (wx : -2147483648 ≤ x ∧ x ≤ 2147483647) (wy : -2147483648 ≤ y ∧ y ≤ 2147483647) (w : World) :
    Calls Tryz.prog 87 #[.int .i32 x, .int .i32 y] w fun e w' => e = .returned (.bool (Gm.inB x && Gm.inB y)) ∧ Below w.heap.size w w' := by
  have c1 := fun X => Lib.hid (fldwrap_any x wx X)
  have c2 := fun X => Lib.hid (fldwrap_any y wy X)
  have hx : Hid (Gm.inB x = decide (Gf.wrap x = x)) := Lib.hid rfl
  have hy : Hid (Gm.inB y = decide (Gf.wrap y = y)) := Lib.hid rfl
  generalize Gf.wrap x = X at *
  generalize Gf.wrap y = Y at *
  by_cases h1 : X = x
  · have b1 : (X == x) = true := by simpa using h1
    by_cases h2 : Y = y
    · have b2 : (Y == y) = true := by simpa using h2
      have HE := Lib.hid (show (Gm.inB x && Gm.inB y) = true by rw [hx.out, hy.out]; simp [h1, h2])
      clear h1 h2
      go_enter Tryz.func87, Tryz.ntmps87
      go_wp2_with (go_at_call 120; first | ((with_reducible refine ((c1 _).out).mono ?_); rintro e w1 ⟨rfl, hb1⟩; clear c1) | ((with_reducible refine ((c2 _).out).mono ?_); rintro e w2 ⟨rfl, hb2⟩))
      go_ret
      exact ⟨ret_bool HE.out.symm, hb1.trans (hb2.mono hb1.size)⟩
    · have b2 : (Y == y) = false := by simpa using h2
      have HE := Lib.hid (show (Gm.inB x && Gm.inB y) = false by rw [hx.out, hy.out]; simp [h1, h2])
      clear h1 h2
      go_enter Tryz.func87, Tryz.ntmps87
      go_wp2_with (go_at_call 120; first | ((with_reducible refine ((c1 _).out).mono ?_); rintro e w1 ⟨rfl, hb1⟩; clear c1) | ((with_reducible refine ((c2 _).out).mono ?_); rintro e w2 ⟨rfl, hb2⟩))
      go_ret
      exact ⟨ret_bool HE.out.symm, hb1.trans (hb2.mono hb1.size)⟩
  · have b1 : (X == x) = false := by simpa using h1
    have HE := Lib.hid (show (Gm.inB x && Gm.inB y) = false by rw [hx.out]; simp [h1])
    clear h1
    go_enter Tryz.func87, Tryz.ntmps87
    go_wp2_with (go_at_call 120; first | ((with_reducible refine ((c1 _).out).mono ?_); rintro e w1 ⟨rfl, hb1⟩; clear c1) | ((with_reducible refine ((c2 _).out).mono ?_); rintro e w2 ⟨rfl, hb2⟩))
    go_ret
    exact ⟨ret_bool HE.out.symm, hb1⟩

set_option maxHeartbeats 1000000 in
theorem within_any (x y m : Int) (hm : 0 ≤ m ∧ m ≤ 1000000) (wx : -2147483648 ≤ x ∧ x ≤ 2147483647) (wy : -2147483648 ≤ y ∧ y ≤ 2147483647) (w : World) :
    Calls Tryz.prog 88 #[.int .i32 x, .int .i32 y, .int .i32 m] w fun e w' => e = .returned (.bool (Gm.slowB x m && Gm.slowB y m)) ∧ Below w.heap.size w w' := by
  have c1 := fun X => Lib.hid (clamp_any x (-m) m wx (by omega) (by omega) X)
  have c2 := fun X => Lib.hid (clamp_any y (-m) m wy (by omega) (by omega) X)
  have hx : Hid (Gm.slowB x m = decide (Fx.clamp x (-m) m = x)) := Lib.hid rfl
  have hy : Hid (Gm.slowB y m = decide (Fx.clamp y (-m) m = y)) := Lib.hid rfl
  have hng : IntKind.i32.wrap (-m) = -m := by rw [IntKind.wrap_i32]; omega
  generalize Fx.clamp x (-m) m = X at *
  generalize Fx.clamp y (-m) m = Y at *
  by_cases h1 : X = x
  · have b1 : (X == x) = true := by simpa using h1
    by_cases h2 : Y = y
    · have b2 : (Y == y) = true := by simpa using h2
      have HE := Lib.hid (show (Gm.slowB x m && Gm.slowB y m) = true by rw [hx.out, hy.out]; simp [h1, h2])
      clear h1 h2
      go_enter Tryz.func88, Tryz.ntmps88
      go_wp2_with (go_at_call 121; first | ((with_reducible refine ((c1 _).out).mono ?_); rintro e w1 ⟨rfl, hb1⟩; clear c1) | ((with_reducible refine ((c2 _).out).mono ?_); rintro e w2 ⟨rfl, hb2⟩))
      go_ret
      exact ⟨ret_bool HE.out.symm, hb1.trans (hb2.mono hb1.size)⟩
    · have b2 : (Y == y) = false := by simpa using h2
      have HE := Lib.hid (show (Gm.slowB x m && Gm.slowB y m) = false by rw [hx.out, hy.out]; simp [h1, h2])
      clear h1 h2
      go_enter Tryz.func88, Tryz.ntmps88
      go_wp2_with (go_at_call 121; first | ((with_reducible refine ((c1 _).out).mono ?_); rintro e w1 ⟨rfl, hb1⟩; clear c1) | ((with_reducible refine ((c2 _).out).mono ?_); rintro e w2 ⟨rfl, hb2⟩))
      go_ret
      exact ⟨ret_bool HE.out.symm, hb1.trans (hb2.mono hb1.size)⟩
  · have b1 : (X == x) = false := by simpa using h1
    have HE := Lib.hid (show (Gm.slowB x m && Gm.slowB y m) = false by rw [hx.out]; simp [h1])
    clear h1
    go_enter Tryz.func88, Tryz.ntmps88
    go_wp2_with (go_at_call 121; first | ((with_reducible refine ((c1 _).out).mono ?_); rintro e w1 ⟨rfl, hb1⟩; clear c1) | ((with_reducible refine ((c2 _).out).mono ?_); rintro e w2 ⟨rfl, hb2⟩))
    go_ret
    exact ⟨ret_bool HE.out.symm, hb1⟩

set_option maxRecDepth 100000 in
set_option maxHeartbeats 2000000 in
theorem mayship_not (x y vx vy cool score : Int) (h : ¬ Gm.okShip ⟨true, x, y, vx, vy, cool, score⟩) (ty : Gm.tyShip ⟨true, x, y, vx, vy, cool, score⟩) (w : World) :
    Calls Tryz.prog 51 #[.agg #[.bool true, .int .i32 x, .int .i32 y, .int .i32 vx, .int .i32 vy, .int .i64 cool, .int .i64 score]] w fun e w' => e = .returned (.bool false) ∧ Below w.heap.size w w' := by
  obtain ⟨wx, wy, wvx, wvy, wc, ws⟩ := ty
  dsimp only at wx wy wvx wvy wc ws
  have c1 := fun X => Lib.hid (there_any x y wx wy X)
  have c2 := fun X => Lib.hid (within_any vx vy 524288 (by omega) wvx wvy X)
  have hno : Hid (¬ ((Gm.inB x && Gm.inB y) = true ∧ (Gm.slowB vx 524288 && Gm.slowB vy 524288) = true ∧ 0 ≤ cool ∧ cool ≤ 10 ∧ 0 ≤ score ∧ score ≤ 1073741824)) := Lib.hid fun hh => h (by
    obtain ⟨h1, h2, h3, h4, h5, h6⟩ := hh
    rw [Bool.and_eq_true, Gm.inB_iff, Gm.inB_iff] at h1
    rw [Bool.and_eq_true, Gm.slowB_iff (by decide), Gm.slowB_iff (by decide)] at h2
    exact ⟨.inl rfl, h1.1, h1.2, h2.1, h2.2, h3, h4, h5, h6⟩)
  clear h
  generalize (Gm.inB x && Gm.inB y) = T at *
  generalize (Gm.slowB vx 524288 && Gm.slowB vy 524288) = V at *
  cases T
  · clear hno
    go_enter Tryz.func51, Tryz.ntmps51
    go_wp2_with (first | (go_at_call 87; ((with_reducible refine ((c1 _).out).mono ?_); rintro e w1 ⟨rfl, hb⟩; have B1 := (Box.made w 24 #[.bool true, .int .i32 x, .int .i32 y, .int .i32 vx, .int .i32 vy, .int .i64 cool, .int .i64 score]).below hb (by simp); have K1 := B1.cell; have Y1 := Lib.hid ((one_below w (.cells #[.bool true, .int .i32 x, .int .i32 y, .int .i32 vx, .int .i32 vy, .int .i64 cool, .int .i64 score] 24)).trans (hb.mono (by simp))); clear hb)) | (go_at_call 88; ((with_reducible refine ((c2 _).out).mono ?_); rintro e w2 ⟨rfl, hb⟩; have B2 := B1.below hb B1.lt; have K2 := B2.cell; have Y2 := Lib.hid (Y1.out.trans (hb.mono Y1.out.size)); clear K1 hb)))
    go_ret
    exact ⟨rfl, Y1.out⟩
  cases V
  · clear hno
    go_enter Tryz.func51, Tryz.ntmps51
    go_wp2_with (first | (go_at_call 87; ((with_reducible refine ((c1 _).out).mono ?_); rintro e w1 ⟨rfl, hb⟩; have B1 := (Box.made w 24 #[.bool true, .int .i32 x, .int .i32 y, .int .i32 vx, .int .i32 vy, .int .i64 cool, .int .i64 score]).below hb (by simp); have K1 := B1.cell; have Y1 := Lib.hid ((one_below w (.cells #[.bool true, .int .i32 x, .int .i32 y, .int .i32 vx, .int .i32 vy, .int .i64 cool, .int .i64 score] 24)).trans (hb.mono (by simp))); clear hb)) | (go_at_call 88; ((with_reducible refine ((c2 _).out).mono ?_); rintro e w2 ⟨rfl, hb⟩; have B2 := B1.below hb B1.lt; have K2 := B2.cell; have Y2 := Lib.hid (Y1.out.trans (hb.mono Y1.out.size)); clear K1 hb)))
    go_ret
    exact ⟨rfl, Y2.out⟩
  by_cases d0 : 0 ≤ cool
  rotate_left
  · have e0 : decide (0 ≤ cool) = false := decide_eq_false d0
    clear hno
    go_enter Tryz.func51, Tryz.ntmps51
    go_wp2_with (first | (go_at_call 87; ((with_reducible refine ((c1 _).out).mono ?_); rintro e w1 ⟨rfl, hb⟩; have B1 := (Box.made w 24 #[.bool true, .int .i32 x, .int .i32 y, .int .i32 vx, .int .i32 vy, .int .i64 cool, .int .i64 score]).below hb (by simp); have K1 := B1.cell; have Y1 := Lib.hid ((one_below w (.cells #[.bool true, .int .i32 x, .int .i32 y, .int .i32 vx, .int .i32 vy, .int .i64 cool, .int .i64 score] 24)).trans (hb.mono (by simp))); clear hb)) | (go_at_call 88; ((with_reducible refine ((c2 _).out).mono ?_); rintro e w2 ⟨rfl, hb⟩; have B2 := B1.below hb B1.lt; have K2 := B2.cell; have Y2 := Lib.hid (Y1.out.trans (hb.mono Y1.out.size)); clear K1 hb)))
    go_ret
    exact ⟨rfl, Y2.out⟩
  have e0 : decide (0 ≤ cool) = true := decide_eq_true d0
  by_cases d1 : cool ≤ 10
  rotate_left
  · have e1 : decide (cool ≤ 10) = false := decide_eq_false d1
    clear hno
    go_enter Tryz.func51, Tryz.ntmps51
    go_wp2_with (first | (go_at_call 87; ((with_reducible refine ((c1 _).out).mono ?_); rintro e w1 ⟨rfl, hb⟩; have B1 := (Box.made w 24 #[.bool true, .int .i32 x, .int .i32 y, .int .i32 vx, .int .i32 vy, .int .i64 cool, .int .i64 score]).below hb (by simp); have K1 := B1.cell; have Y1 := Lib.hid ((one_below w (.cells #[.bool true, .int .i32 x, .int .i32 y, .int .i32 vx, .int .i32 vy, .int .i64 cool, .int .i64 score] 24)).trans (hb.mono (by simp))); clear hb)) | (go_at_call 88; ((with_reducible refine ((c2 _).out).mono ?_); rintro e w2 ⟨rfl, hb⟩; have B2 := B1.below hb B1.lt; have K2 := B2.cell; have Y2 := Lib.hid (Y1.out.trans (hb.mono Y1.out.size)); clear K1 hb)))
    go_ret
    exact ⟨rfl, Y2.out⟩
  have e1 : decide (cool ≤ 10) = true := decide_eq_true d1
  by_cases d2 : 0 ≤ score
  rotate_left
  · have e2 : decide (0 ≤ score) = false := decide_eq_false d2
    clear hno
    go_enter Tryz.func51, Tryz.ntmps51
    go_wp2_with (first | (go_at_call 87; ((with_reducible refine ((c1 _).out).mono ?_); rintro e w1 ⟨rfl, hb⟩; have B1 := (Box.made w 24 #[.bool true, .int .i32 x, .int .i32 y, .int .i32 vx, .int .i32 vy, .int .i64 cool, .int .i64 score]).below hb (by simp); have K1 := B1.cell; have Y1 := Lib.hid ((one_below w (.cells #[.bool true, .int .i32 x, .int .i32 y, .int .i32 vx, .int .i32 vy, .int .i64 cool, .int .i64 score] 24)).trans (hb.mono (by simp))); clear hb)) | (go_at_call 88; ((with_reducible refine ((c2 _).out).mono ?_); rintro e w2 ⟨rfl, hb⟩; have B2 := B1.below hb B1.lt; have K2 := B2.cell; have Y2 := Lib.hid (Y1.out.trans (hb.mono Y1.out.size)); clear K1 hb)))
    go_ret
    exact ⟨rfl, Y2.out⟩
  have e2 : decide (0 ≤ score) = true := decide_eq_true d2
  have e3 : decide (score ≤ 1073741824) = false := decide_eq_false fun h => hno.out ⟨rfl, rfl, d0, d1, d2, h⟩
  clear hno d0 d1 d2
  go_enter Tryz.func51, Tryz.ntmps51
  go_wp2_with (first | (go_at_call 87; ((with_reducible refine ((c1 _).out).mono ?_); rintro e w1 ⟨rfl, hb⟩; have B1 := (Box.made w 24 #[.bool true, .int .i32 x, .int .i32 y, .int .i32 vx, .int .i32 vy, .int .i64 cool, .int .i64 score]).below hb (by simp); have K1 := B1.cell; have Y1 := Lib.hid ((one_below w (.cells #[.bool true, .int .i32 x, .int .i32 y, .int .i32 vx, .int .i32 vy, .int .i64 cool, .int .i64 score] 24)).trans (hb.mono (by simp))); clear hb)) | (go_at_call 88; ((with_reducible refine ((c2 _).out).mono ?_); rintro e w2 ⟨rfl, hb⟩; have B2 := B1.below hb B1.lt; have K2 := B2.cell; have Y2 := Lib.hid (Y1.out.trans (hb.mono Y1.out.size)); clear K1 hb)))
  go_ret
  exact ⟨rfl, Y2.out⟩

set_option maxHeartbeats 1000000 in
theorem ship_eq' (s t : Gm.Ship) (w : World) : (Op.equalIn 10000 24 (.agg s.cells.toArray) (.agg t.cells.toArray)).run Tryz.prog w = .ok (s.eqB t) w := by
  obtain ⟨a1, a2, a3, a4, a5, a6, a7⟩ := s
  obtain ⟨b1, b2, b3, b4, b5, b6, b7⟩ := t
  have h := ifs7 w (a1 == b1) (a2 == b2) (a3 == b3) (a4 == b4) (a5 == b5) (a6 == b6) (a7 == b7)
  simp only [beq_iff_eq] at h
  simp only [Gm.Ship.cells]
  go_simp
  rfl
theorem ship_eql (s t : Gm.Ship) (w : World) : (binOp .eql 24 (.agg s.cells.toArray) (.agg t.cells.toArray)).run Tryz.prog w = .ok (.bool (s.eqB t)) w := by
  simp only [binOp]
  simp [Op.equal, Op.maxDepth, ship_eq']
set_option maxRecDepth 100000 in
set_option maxHeartbeats 2000000 in
theorem mayship_off (x y vx vy cool score : Int) (h : ¬ Gm.okShip ⟨false, x, y, vx, vy, cool, score⟩) (w : World) :
    Calls Tryz.prog 51 #[.agg #[.bool false, .int .i32 x, .int .i32 y, .int .i32 vx, .int .i32 vy, .int .i64 cool, .int .i64 score]] w fun e w' => e = .returned (.bool false) ∧ Below w.heap.size w w' := by
  have hne : (⟨false, x, y, vx, vy, cool, score⟩ : Gm.Ship) ≠ Gm.Ship.none := fun e => h (by
    rw [e]
    refine ⟨.inr rfl, ?_, ?_, ?_, ?_, ?_, ?_, ?_, ?_⟩ <;> simp [Gm.Ship.none, Gm.inF, Gm.slow])
  have he := fun W => ship_eql ⟨false, x, y, vx, vy, cool, score⟩ Gm.Ship.none W
  rw [show (⟨false, x, y, vx, vy, cool, score⟩ : Gm.Ship).eqB Gm.Ship.none = false by
    cases hq : (⟨false, x, y, vx, vy, cool, score⟩ : Gm.Ship).eqB Gm.Ship.none
    · rfl
    · exact absurd (Gm.Ship.eqB_iff.1 hq) hne] at he
  simp only [Gm.Ship.cells, Gm.Ship.none] at he
  clear h hne
  go_enter Tryz.func51, Tryz.ntmps51
  go_wp2
  go_ret
  exact ⟨rfl, one_below _ _⟩
theorem mayship_bad (s : Gm.Ship) (h : ¬ Gm.okShip s) (ty : Gm.tyShip s) (w : World) :
    Calls Tryz.prog 51 #[.agg s.cells.toArray] w fun e w' => e = .returned (.bool false) ∧ Below w.heap.size w w' := by
  obtain ⟨on, x, y, vx, vy, cool, score⟩ := s
  cases on
  · exact mayship_off x y vx vy cool score h w
  · exact mayship_not x y vx vy cool score h ty w

set_option maxRecDepth 100000 in
set_option maxHeartbeats 2000000 in
theorem mayshot_not (owner x y vx vy left : Int) (h : ¬ Gm.okShot ⟨owner, x, y, vx, vy, left⟩) (ty : Gm.tyShot ⟨owner, x, y, vx, vy, left⟩) (w : World) :
    Calls Tryz.prog 53 #[.agg #[.int .i64 owner, .int .i32 x, .int .i32 y, .int .i32 vx, .int .i32 vy, .int .i64 left]] w fun e w' => e = .returned (.bool false) ∧ Below w.heap.size w w' := by
  obtain ⟨wo, wx, wy, wvx, wvy, wl⟩ := ty
  dsimp only at wo wx wy wvx wvy wl
  have c0 := fun X => Lib.hid (isslot_any owner wo X)
  have c1 := fun X => Lib.hid (there_any x y wx wy X)
  have c2 := fun X => Lib.hid (within_any vx vy 393216 (by omega) wvx wvy X)
  have hno : Hid (¬ ((decide (0 ≤ owner) && decide (owner < 8)) = true ∧ (Gm.inB x && Gm.inB y) = true ∧ (Gm.slowB vx 393216 && Gm.slowB vy 393216) = true ∧ 1 ≤ left ∧ left ≤ 24)) := Lib.hid fun hh => h (by
    obtain ⟨h0, h1, h2, h3, h4⟩ := hh
    rw [Bool.and_eq_true, Gm.inB_iff, Gm.inB_iff] at h1
    rw [Bool.and_eq_true, Gm.slowB_iff (by decide), Gm.slowB_iff (by decide)] at h2
    simp only [Bool.and_eq_true, decide_eq_true_eq] at h0
    exact ⟨h0.1, h0.2, h1.1, h1.2, h2.1, h2.2, h3, h4⟩)
  clear h
  generalize (decide (0 ≤ owner) && decide (owner < 8)) = O at *
  generalize (Gm.inB x && Gm.inB y) = T at *
  generalize (Gm.slowB vx 393216 && Gm.slowB vy 393216) = V at *
  cases O
  · clear hno
    go_enter Tryz.func53, Tryz.ntmps53
    go_wp2_with (first | (go_at_call 91; ((with_reducible refine ((c0 _).out).mono ?_); rintro e w0 ⟨rfl, rfl⟩)) | (go_at_call 87; ((with_reducible refine ((c1 _).out).mono ?_); rintro e w1 ⟨rfl, hb⟩; have B1 := (Box.made w 90 #[.int .i64 owner, .int .i32 x, .int .i32 y, .int .i32 vx, .int .i32 vy, .int .i64 left]).below hb (by simp); have K1 := B1.cell; have Y1 := Lib.hid ((one_below w (.cells #[.int .i64 owner, .int .i32 x, .int .i32 y, .int .i32 vx, .int .i32 vy, .int .i64 left] 90)).trans (hb.mono (by simp))); clear hb)) | (go_at_call 88; ((with_reducible refine ((c2 _).out).mono ?_); rintro e w2 ⟨rfl, hb⟩; have B2 := B1.below hb B1.lt; have K2 := B2.cell; have Y2 := Lib.hid (Y1.out.trans (hb.mono Y1.out.size)); clear K1 hb)))
    go_ret
    exact ⟨rfl, one_below _ _⟩
  cases T
  · clear hno
    go_enter Tryz.func53, Tryz.ntmps53
    go_wp2_with (first | (go_at_call 91; ((with_reducible refine ((c0 _).out).mono ?_); rintro e w0 ⟨rfl, rfl⟩)) | (go_at_call 87; ((with_reducible refine ((c1 _).out).mono ?_); rintro e w1 ⟨rfl, hb⟩; have B1 := (Box.made w 90 #[.int .i64 owner, .int .i32 x, .int .i32 y, .int .i32 vx, .int .i32 vy, .int .i64 left]).below hb (by simp); have K1 := B1.cell; have Y1 := Lib.hid ((one_below w (.cells #[.int .i64 owner, .int .i32 x, .int .i32 y, .int .i32 vx, .int .i32 vy, .int .i64 left] 90)).trans (hb.mono (by simp))); clear hb)) | (go_at_call 88; ((with_reducible refine ((c2 _).out).mono ?_); rintro e w2 ⟨rfl, hb⟩; have B2 := B1.below hb B1.lt; have K2 := B2.cell; have Y2 := Lib.hid (Y1.out.trans (hb.mono Y1.out.size)); clear K1 hb)))
    go_ret
    exact ⟨rfl, Y1.out⟩
  cases V
  · clear hno
    go_enter Tryz.func53, Tryz.ntmps53
    go_wp2_with (first | (go_at_call 91; ((with_reducible refine ((c0 _).out).mono ?_); rintro e w0 ⟨rfl, rfl⟩)) | (go_at_call 87; ((with_reducible refine ((c1 _).out).mono ?_); rintro e w1 ⟨rfl, hb⟩; have B1 := (Box.made w 90 #[.int .i64 owner, .int .i32 x, .int .i32 y, .int .i32 vx, .int .i32 vy, .int .i64 left]).below hb (by simp); have K1 := B1.cell; have Y1 := Lib.hid ((one_below w (.cells #[.int .i64 owner, .int .i32 x, .int .i32 y, .int .i32 vx, .int .i32 vy, .int .i64 left] 90)).trans (hb.mono (by simp))); clear hb)) | (go_at_call 88; ((with_reducible refine ((c2 _).out).mono ?_); rintro e w2 ⟨rfl, hb⟩; have B2 := B1.below hb B1.lt; have K2 := B2.cell; have Y2 := Lib.hid (Y1.out.trans (hb.mono Y1.out.size)); clear K1 hb)))
    go_ret
    exact ⟨rfl, Y2.out⟩
  by_cases d0 : 1 ≤ left
  rotate_left
  · have e0 : decide (1 ≤ left) = false := decide_eq_false d0
    clear hno
    go_enter Tryz.func53, Tryz.ntmps53
    go_wp2_with (first | (go_at_call 91; ((with_reducible refine ((c0 _).out).mono ?_); rintro e w0 ⟨rfl, rfl⟩)) | (go_at_call 87; ((with_reducible refine ((c1 _).out).mono ?_); rintro e w1 ⟨rfl, hb⟩; have B1 := (Box.made w 90 #[.int .i64 owner, .int .i32 x, .int .i32 y, .int .i32 vx, .int .i32 vy, .int .i64 left]).below hb (by simp); have K1 := B1.cell; have Y1 := Lib.hid ((one_below w (.cells #[.int .i64 owner, .int .i32 x, .int .i32 y, .int .i32 vx, .int .i32 vy, .int .i64 left] 90)).trans (hb.mono (by simp))); clear hb)) | (go_at_call 88; ((with_reducible refine ((c2 _).out).mono ?_); rintro e w2 ⟨rfl, hb⟩; have B2 := B1.below hb B1.lt; have K2 := B2.cell; have Y2 := Lib.hid (Y1.out.trans (hb.mono Y1.out.size)); clear K1 hb)))
    go_ret
    exact ⟨rfl, Y2.out⟩
  have e0 : decide (1 ≤ left) = true := decide_eq_true d0
  have e3 : decide (left ≤ 24) = false := decide_eq_false fun h => hno.out ⟨rfl, rfl, rfl, d0, h⟩
  clear hno d0
  go_enter Tryz.func53, Tryz.ntmps53
  go_wp2_with (first | (go_at_call 91; ((with_reducible refine ((c0 _).out).mono ?_); rintro e w0 ⟨rfl, rfl⟩)) | (go_at_call 87; ((with_reducible refine ((c1 _).out).mono ?_); rintro e w1 ⟨rfl, hb⟩; have B1 := (Box.made w 90 #[.int .i64 owner, .int .i32 x, .int .i32 y, .int .i32 vx, .int .i32 vy, .int .i64 left]).below hb (by simp); have K1 := B1.cell; have Y1 := Lib.hid ((one_below w (.cells #[.int .i64 owner, .int .i32 x, .int .i32 y, .int .i32 vx, .int .i32 vy, .int .i64 left] 90)).trans (hb.mono (by simp))); clear hb)) | (go_at_call 88; ((with_reducible refine ((c2 _).out).mono ?_); rintro e w2 ⟨rfl, hb⟩; have B2 := B1.below hb B1.lt; have K2 := B2.cell; have Y2 := Lib.hid (Y1.out.trans (hb.mono Y1.out.size)); clear K1 hb)))
  go_ret
  exact ⟨rfl, Y2.out⟩
end Go.Proofs.YtkkhdaeihnbilaaGreat
namespace Go.Proofs.YtkkhdaeihnbilaaGreat
open Go.RowKit
set_option linter.unusedVariables false

set_option maxHeartbeats 1000000 in
theorem allship1_bad (s : Gm.Ship) (h : ¬ Gm.okShip s) (ty : Gm.tyShip s) (Bf : Nat) (w : World) (hf : Box w Bf 87 #[.func (.func 51) #[] #[]]) :
    Calls Tryz.prog 86 #[.agg s.cells.toArray, .pointer (some ⟨Bf, 0, none⟩)] w fun e w' => e = .returned (.bool true) ∧ Below w.heap.size w w' := by
  have c1 := fun X => Lib.hid (mayship_bad s h ty X)
  have hK : ∀ o, (w.alloc o).cell? ⟨Bf, 0, none⟩ = some (.func (.func 51) #[] #[]) := fun o => (hf.alloc o).cell 0
  obtain ⟨on, x, y, vx, vy, cool, score⟩ := s
  simp only [Gm.Ship.cells] at c1 ⊢
  clear h hf ty
  go_enter Tryz.func86, Tryz.ntmps86
  go_wp2_with (go_at_call 51; ((with_reducible refine ((c1 _).out).mono ?_); rintro e w1 ⟨rfl, hb1⟩))
  go_ret
  exact ⟨rfl, (one_below w _).trans (hb1.mono (by simp))⟩

set_option maxRecDepth 100000 in
set_option maxHeartbeats 2000000 in
theorem indexship_bad (f : Nat → Gm.Ship) (A : Option Addr) (c : Nat) (Bf : Nat) (w : World) (hno : ¬ ∀ i (h : i < 8), Gm.okShip (f i)) (hty : ∀ i (h : i < 8), Gm.tyShip (f i)) (hr : Lies w w.heap.size 7 A 8 (Gm.shipCells f)) (hf : Box w Bf 87 #[.func (.func 51) #[] #[]]) :
    Calls Tryz.prog 119 #[.slice A 8 c, .func (.func 86) #[] #[.pointer (some ⟨Bf, 0, none⟩)]] w fun e w' => (∃ k : Nat, e = .returned (.int .i64 k)) ∧ Below w.heap.size w w' := by
  have HNO := Lib.hid hno
  clear hno
  go_enter Tryz.func119, Tryz.ntmps119
  go_wp2
  go_loopw [8] (fun i wr => ∃ k : Nat, k ≤ 8 ∧ i = .int .i64 k ∧ (∀ j (hj : j < k), Gm.okShip (f j)) ∧ Below w.heap.size w wr) (fun i _ => 8 - (intOf i).toNat)
  case atStart => exact ⟨0, by omega, rfl, fun j hj => absurd hj (Nat.not_lt_zero j), Below.refl _ _⟩
  case round =>
    obtain ⟨k, hk, rfl, hall, hb⟩ := hrel
    by_cases hlt : k < 8
    · have hbs := hb.size
      obtain ⟨ad, rfl, hbl, e0, e1, e2, e3, e4, e5, e6⟩ := ships_at (hr.below hb) k hlt
      have cty := hty k hlt
      have hfb := hf.below hb hf.lt
      have hkn : (k : Int) < 8 := by omega
      by_cases ho : Gm.okShip (f k)
      · have hall2 : ∀ j (hj : j < k + 1), Gm.okShip (f j) := fun j hj => by
          by_cases e : j = k
          · subst e; exact ho
          · exact hall j (by omega)
        have cc := fun X hX => Lib.hid (allship1_yes (f k) ho Bf X hX)
        generalize f k = s at e0 e1 e2 e3 e4 e5 e6 ho cc cty
        obtain ⟨on, x, y, vx, vy, cool, score⟩ := s
        dsimp only at e0 e1 e2 e3 e4 e5 e6
        simp only [Gm.Ship.cells] at cc
        have HB := Lib.hid hb
        have HF := Lib.hid hfb
        have HALL := Lib.hid hall2
        clear hr ho hb hf hfb hty cty hall hall2
        go_wp2_with (go_at_call 86; ((with_reducible refine ((cc _ (by first | exact HF.out)).out).mono ?_); rintro e w1 ⟨rfl, hb1⟩))
        go_roundw
        case rel => exact ⟨k + 1, by omega, by go_num, HALL.out, HB.out.trans (hb1.mono HB.out.size)⟩
        case measure => simp [intOf]; omega
      · have cc := fun X hX => Lib.hid (allship1_bad (f k) ho cty Bf X hX)
        generalize f k = s at e0 e1 e2 e3 e4 e5 e6 ho cc cty
        obtain ⟨on, x, y, vx, vy, cool, score⟩ := s
        dsimp only at e0 e1 e2 e3 e4 e5 e6
        simp only [Gm.Ship.cells] at cc
        have HB := Lib.hid hb
        have HF := Lib.hid hfb
        clear hr ho hb hf hfb hty cty hall
        go_wp2_with (go_at_call 86; ((with_reducible refine ((cc _ (by first | exact HF.out)).out).mono ?_); rintro e w1 ⟨rfl, hb1⟩))
        go_ret
        exact ⟨⟨k, rfl⟩, HB.out.trans (hb1.mono HB.out.size)⟩
    · exact absurd (fun i hi => hall i (by omega)) HNO.out

set_option maxHeartbeats 1000000 in
theorem containsship_yes (f : Nat → Gm.Ship) (A : Option Addr) (c : Nat) (Bf : Nat) (w : World) (hno : ¬ ∀ i (h : i < 8), Gm.okShip (f i)) (hty : ∀ i (h : i < 8), Gm.tyShip (f i)) (hr : Lies w w.heap.size 7 A 8 (Gm.shipCells f)) (hf : Box w Bf 87 #[.func (.func 51) #[] #[]]) :
    Calls Tryz.prog 85 #[.slice A 8 c, .func (.func 86) #[] #[.pointer (some ⟨Bf, 0, none⟩)]] w fun e w' => e = .returned (.bool true) ∧ Below w.heap.size w w' := by
  have c1 := Lib.hid (indexship_bad f A c Bf w hno hty hr hf)
  clear hr hf hno hty
  go_enter Tryz.func85, Tryz.ntmps85
  go_wp2_with (go_at_call 119; ((with_reducible refine ((c1).out).mono ?_); rintro e w1 ⟨⟨k, rfl⟩, hb1⟩; have hd : decide (0 ≤ (k : Int)) = true := decide_eq_true (by omega)))
  go_ret
  exact ⟨rfl, hb1⟩

set_option maxHeartbeats 1000000 in
theorem allship_bad (f : Nat → Gm.Ship) (A : Option Addr) (c : Nat) (w : World) (hno : ¬ ∀ i (h : i < 8), Gm.okShip (f i)) (hty : ∀ i (h : i < 8), Gm.tyShip (f i)) (hr : Lies w w.heap.size 7 A 8 (Gm.shipCells f)) :
    Calls Tryz.prog 50 #[.slice A 8 c, .func (.func 51) #[] #[]] w fun e w' => e = .returned (.bool false) ∧ Below w.heap.size w w' := by
  have hmf : ∀ (fn : Fn) (first cap : Array Value) (w : World), (Instr.makeFunc fn first cap).run Tryz.prog w = .ok (.func fn first cap) w := fun _ _ _ _ => rfl
  have hb0 := one_below w (.cells #[.func (.func 51) #[] #[]] 87)
  have c1 := Lib.hid (containsship_yes f A c w.heap.size _ hno hty ((hr.below hb0).wider hb0.size) (Box.made w _ _))
  have hbz := Lib.hid hb0
  clear hr hb0 hno hty
  go_enter Tryz.func50, Tryz.ntmps50
  go_wp2_with (go_at_call 85; ((with_reducible refine ((c1).out).mono ?_); rintro e w1 ⟨rfl, hb1⟩))
  go_ret
  exact ⟨rfl, hbz.out.trans (hb1.mono hbz.out.size)⟩

set_option maxHeartbeats 1000000 in
theorem allshot1_bad (s : Gm.Shot) (h : ¬ Gm.okShot s) (ty : Gm.tyShot s) (Bf : Nat) (w : World) (hf : Box w Bf 91 #[.func (.func 53) #[] #[]]) :
    Calls Tryz.prog 90 #[.agg s.cells.toArray, .pointer (some ⟨Bf, 0, none⟩)] w fun e w' => e = .returned (.bool true) ∧ Below w.heap.size w w' := by
  have c1 := fun X => Lib.hid (show Calls Tryz.prog 53 #[.agg s.cells.toArray] X (fun e w' => e = .returned (.bool false) ∧ Below X.heap.size X w') by obtain ⟨a, b, c, d, e, f⟩ := s; exact mayshot_not a b c d e f h ty X)
  have hK : ∀ o, (w.alloc o).cell? ⟨Bf, 0, none⟩ = some (.func (.func 53) #[] #[]) := fun o => (hf.alloc o).cell 0
  obtain ⟨owner, x, y, vx, vy, left⟩ := s
  simp only [Gm.Shot.cells] at c1 ⊢
  clear h hf ty
  go_enter Tryz.func90, Tryz.ntmps90
  go_wp2_with (go_at_call 53; ((with_reducible refine ((c1 _).out).mono ?_); rintro e w1 ⟨rfl, hb1⟩))
  go_ret
  exact ⟨rfl, (one_below w _).trans (hb1.mono (by simp))⟩

set_option maxRecDepth 100000 in
set_option maxHeartbeats 2000000 in
theorem indexshot_bad (l : List Gm.Shot) (n : Nat) (A : Option Addr) (c : Nat) (Bf : Nat) (w : World) (hno : ¬ ∀ i (h : i < l.length), Gm.okShot (l[i])) (hty : ∀ i (h : i < l.length), Gm.tyShot (l[i])) (hn : n = l.length) (hn32 : n ≤ 32) (hr : Lies w w.heap.size 6 A n (Gm.shotCells l)) (hf : Box w Bf 91 #[.func (.func 53) #[] #[]]) :
    Calls Tryz.prog 122 #[.slice A n c, .func (.func 90) #[] #[.pointer (some ⟨Bf, 0, none⟩)]] w fun e w' => (∃ k : Nat, e = .returned (.int .i64 k)) ∧ Below w.heap.size w w' := by
  have hN := Lib.hid hn
  clear hn
  have HNO := Lib.hid hno
  clear hno
  go_enter Tryz.func122, Tryz.ntmps122
  go_wp2
  go_loopw [8] (fun i wr => ∃ k : Nat, k ≤ n ∧ i = .int .i64 k ∧ (∀ j (hj : j < k), ∀ hjl : j < l.length, Gm.okShot (l[j]'hjl)) ∧ Below w.heap.size w wr) (fun i _ => n - (intOf i).toNat)
  case atStart => exact ⟨0, by omega, rfl, fun j hj => absurd hj (Nat.not_lt_zero j), Below.refl _ _⟩
  case round =>
    obtain ⟨k, hk, rfl, hall, hb⟩ := hrel
    by_cases hlt : k < n
    · have hbs := hb.size
      have hkl : k < l.length := by have := hN.out; omega
      obtain ⟨ad, rfl, hbl, e0, e1, e2, e3, e4, e5⟩ := shots_at (hr.below hb) hN.out k (by have := hN.out; omega)
      have cty := hty k hkl
      have hfb := hf.below hb hf.lt
      have hkn : (k : Int) < n := by omega
      by_cases ho : Gm.okShot (l[k]'hkl)
      · have hall2 : ∀ j (hj : j < k + 1), ∀ hjl : j < l.length, Gm.okShot (l[j]'hjl) := fun j hj => by
          by_cases e : j = k
          · subst e; exact fun _ => ho
          · exact hall j (by omega)
        have cc := fun X hX => Lib.hid (allshot1_yes (l[k]'hkl) ho Bf X hX)
        generalize l[k]'hkl = s at e0 e1 e2 e3 e4 e5 ho cc cty
        obtain ⟨owner, x, y, vx, vy, left⟩ := s
        dsimp only at e0 e1 e2 e3 e4 e5
        simp only [Gm.Shot.cells] at cc
        have HB := Lib.hid hb
        have HF := Lib.hid hfb
        have HALL := Lib.hid hall2
        clear hr ho hb hf hfb hty cty hall hall2
        go_wp2_with (go_at_call 90; ((with_reducible refine ((cc _ (by first | exact HF.out)).out).mono ?_); rintro e w1 ⟨rfl, hb1⟩))
        go_roundw
        case rel => exact ⟨k + 1, by omega, by go_num, HALL.out, HB.out.trans (hb1.mono HB.out.size)⟩
        case measure => simp [intOf]; omega
      · have cc := fun X hX => Lib.hid (allshot1_bad (l[k]'hkl) ho cty Bf X hX)
        generalize l[k]'hkl = s at e0 e1 e2 e3 e4 e5 ho cc cty
        obtain ⟨owner, x, y, vx, vy, left⟩ := s
        dsimp only at e0 e1 e2 e3 e4 e5
        simp only [Gm.Shot.cells] at cc
        have HB := Lib.hid hb
        have HF := Lib.hid hfb
        clear hr ho hb hf hfb hty cty hall
        go_wp2_with (go_at_call 90; ((with_reducible refine ((cc _ (by first | exact HF.out)).out).mono ?_); rintro e w1 ⟨rfl, hb1⟩))
        go_ret
        exact ⟨⟨k, rfl⟩, HB.out.trans (hb1.mono HB.out.size)⟩
    · exact absurd (fun i hi => hall i (by have := hN.out; omega) hi) HNO.out

set_option maxHeartbeats 1000000 in
theorem containsshot_yes (l : List Gm.Shot) (n : Nat) (A : Option Addr) (c : Nat) (Bf : Nat) (w : World) (hno : ¬ ∀ i (h : i < l.length), Gm.okShot (l[i])) (hty : ∀ i (h : i < l.length), Gm.tyShot (l[i])) (hn : n = l.length) (hn32 : n ≤ 32) (hr : Lies w w.heap.size 6 A n (Gm.shotCells l)) (hf : Box w Bf 91 #[.func (.func 53) #[] #[]]) :
    Calls Tryz.prog 89 #[.slice A n c, .func (.func 90) #[] #[.pointer (some ⟨Bf, 0, none⟩)]] w fun e w' => e = .returned (.bool true) ∧ Below w.heap.size w w' := by
  have c1 := Lib.hid (indexshot_bad l n A c Bf w hno hty hn hn32 hr hf)
  clear hr hf hno hty hn
  go_enter Tryz.func89, Tryz.ntmps89
  go_wp2_with (go_at_call 122; ((with_reducible refine ((c1).out).mono ?_); rintro e w1 ⟨⟨k, rfl⟩, hb1⟩; have hd : decide (0 ≤ (k : Int)) = true := decide_eq_true (by omega)))
  go_ret
  exact ⟨rfl, hb1⟩

set_option maxHeartbeats 1000000 in
theorem allshot_bad (l : List Gm.Shot) (n : Nat) (A : Option Addr) (c : Nat) (w : World) (hno : ¬ ∀ i (h : i < l.length), Gm.okShot (l[i])) (hty : ∀ i (h : i < l.length), Gm.tyShot (l[i])) (hn : n = l.length) (hn32 : n ≤ 32) (hr : Lies w w.heap.size 6 A n (Gm.shotCells l)) :
    Calls Tryz.prog 52 #[.slice A n c, .func (.func 53) #[] #[]] w fun e w' => e = .returned (.bool false) ∧ Below w.heap.size w w' := by
  have hmf : ∀ (fn : Fn) (first cap : Array Value) (w : World), (Instr.makeFunc fn first cap).run Tryz.prog w = .ok (.func fn first cap) w := fun _ _ _ _ => rfl
  have hb0 := one_below w (.cells #[.func (.func 53) #[] #[]] 91)
  have c1 := Lib.hid (containsshot_yes l n A c w.heap.size _ hno hty hn hn32 ((hr.below hb0).wider hb0.size) (Box.made w _ _))
  have hbz := Lib.hid hb0
  clear hr hb0 hno hty hn
  go_enter Tryz.func52, Tryz.ntmps52
  go_wp2_with (go_at_call 89; ((with_reducible refine ((c1).out).mono ?_); rintro e w1 ⟨rfl, hb1⟩))
  go_ret
  exact ⟨rfl, hbz.out.trans (hb1.mono hbz.out.size)⟩

set_option maxRecDepth 100000 in
set_option maxHeartbeats 2000000 in
theorem may_not (g : Gm.G) (A : Option Addr) (n c : Nat) (w : World) (hg : ¬ Gm.ok g) (hty : Gm.ty g) (hn : n = g.shots.length) (hn63 : n ≤ maxLen) (hr : Lies w w.heap.size 6 A n (Gm.shotCells g.shots)) :
    Calls Tryz.prog 24 #[.agg (Gm.cells g (.slice A n c))] w fun e w' => e = .returned (.bool false) ∧ Below w.heap.size w w' := by
  have B0 := Box.made w 28 (Gm.cells g (.slice A n c))
  have hb0 := one_below w (.cells (Gm.cells g (.slice A n c)) 28)
  have hc : ∀ j, (w.alloc (.cells (Gm.cells g (.slice A n c)) 28)).cell? ⟨w.heap.size, j, none⟩ = (Gm.cells g (.slice A n c))[j]? := fun j => B0.cell j
  have h0 := Gm.cells_0 g (.slice A n c)
  have h58 := Gm.cells_58 g (.slice A n c)
  have BB := Lib.hid B0
  have HB := Lib.hid hb0
  by_cases hf : g.frame < 0
  · have d1 : decide (g.frame < 0) = true := decide_eq_true hf
    clear hr B0 hb0 hn hg hty
    go_enter Tryz.func24, Tryz.ntmps24
    go_wp2
    go_ret
    exact ⟨rfl, HB.out⟩
  have d1 : decide (g.frame < 0) = false := decide_eq_false hf
  by_cases hf2 : 1048576 < g.frame
  · have d2 : decide (1048576 < g.frame) = true := decide_eq_true hf2
    clear hr B0 hb0 hn hg hty
    go_enter Tryz.func24, Tryz.ntmps24
    go_wp2
    go_ret
    exact ⟨rfl, HB.out⟩
  have d2 : decide (1048576 < g.frame) = false := decide_eq_false hf2
  by_cases hf3 : 32 < n
  · have d3 : decide (32 < (n : Int)) = true := decide_eq_true (by omega)
    clear hr B0 hb0 hn hg hty
    go_enter Tryz.func24, Tryz.ntmps24
    go_wp2
    go_ret
    exact ⟨rfl, HB.out⟩
  have d3 : decide (32 < (n : Int)) = false := decide_eq_false (by omega)
  by_cases hs : ∀ i, i < 8 → Gm.okShip (g.ship i)
  · have hs2 : ¬ ∀ i (h : i < g.shots.length), Gm.okShot g.shots[i] := fun hh => hg ⟨by omega, by omega, by omega, hs, hh⟩
    have c1 := Lib.hid (allship_yes g.ship (some ⟨w.heap.size, 2, none⟩) 8 _ hs (ships_lie B0))
    have c2 := fun X (hX : Below w.heap.size w X) => Lib.hid (allshot_bad g.shots n A c X hs2 hty.2.2.2 hn (by omega) ((hr.below hX).wider hX.size))
    clear hr B0 hb0 hn hg hty hs hs2
    go_enter Tryz.func24, Tryz.ntmps24
    go_wp2_with (first | (go_at_call 50; ((with_reducible refine ((c1).out).mono ?_); rintro e w1 ⟨rfl, hb1⟩; have hc1 := (BB.out.below hb1 BB.out.lt).cell; have HB1 := Lib.hid (HB.out.trans (hb1.mono HB.out.size)))) | (go_at_call 52; ((with_reducible refine ((c2 _ (HB1.out)).out).mono ?_); rintro e w2 ⟨rfl, hb2⟩)))
    go_ret
    exact ⟨rfl, HB1.out.trans (hb2.mono HB1.out.size)⟩
  · have c1 := Lib.hid (allship_bad g.ship (some ⟨w.heap.size, 2, none⟩) 8 _ hs hty.2.2.1 (ships_lie B0))
    clear hr B0 hb0 hn hg hty hs
    go_enter Tryz.func24, Tryz.ntmps24
    go_wp2_with (go_at_call 50; ((with_reducible refine ((c1).out).mono ?_); rintro e w1 ⟨rfl, hb1⟩; have HB1 := Lib.hid (HB.out.trans (hb1.mono HB.out.size))))
    go_ret
    exact ⟨rfl, HB1.out⟩
end Go.Proofs.YtkkhdaeihnbilaaGreat
namespace Go.Proofs.YtkkhdaeihnbilaaGreat
open Go.RowKit Go.Shelf
set_option linter.unusedVariables false
set_option linter.unusedSimpArgs false

/-- Which states may be. -/
def Im.Ok (g : Gm.G) (r : Ros.R) : Prop := Gm.ok g ∧ Ros.Ok r ∧ ∀ k, k < 8 → (g.ship k).on = decide (0 ≤ r.peer k)
theorem state_info : (Tryz.prog.info? 35).map (·.size) = some 76 := by kernel_rfl
theorem seats_info : (Tryz.prog.info? 31).map (·.size) = some 16 := by kernel_rfl
section
variable {ops : Array Oper} {rest : List Oper} {o : Oper} {a : Act} {w : World} {Q : Exit → Act → World → Prop} {x : Operand} {dst : Option Tmp} {p : Value}
/-- What the load of a state's game wants. -/
def LoadIm (ops : Array Oper) (Q : Exit → Act → World → Prop) (rest : List Oper) (dst : Option Tmp) (p : Value) (off : Nat) (pick : Gm.G → Value → Ros.R → Array Value) (a : Act) (w : World) : Prop :=
  ∃ (B : Nat) (g : Gm.G) (s : Value) (r : Ros.R), p = .pointer (some ⟨B, off, none⟩) ∧ Box w B 35 (Im.cells g s r) ∧ wpList Tryz.prog ops Q rest (a.put dst (.agg (pick g s r))) w
theorem LoadIm.mk {off : Nat} {pick : Gm.G → Value → Ros.R → Array Value} {B : Nat} {g : Gm.G} {s : Value} {r : Ros.R} (hp : p = .pointer (some ⟨B, off, none⟩)) (hB : Box w B 35 (Im.cells g s r)) (h : wpList Tryz.prog ops Q rest (a.put dst (.agg (pick g s r))) w) : LoadIm ops Q rest dst p off pick a w := ⟨B, g, s, r, hp, hB, h⟩
theorem im_load_game (hgd : o.guard = none) (ho : o.op = .load 28 x) (h : LoadIm ops Q rest o.dst (a.eval x) 0 (fun g s _ => Gm.cells g s) a w) : wpList Tryz.prog ops Q (o :: rest) a w := by
  obtain ⟨B, g, s, r, hx, hB, h⟩ := h
  refine wpList_load_part hgd ho hx hB (Gm.cells g s).toList (fun j v hv => ?_) Tryz.underlying28 rfl game_info h
  have hj : j < 59 := (List.getElem?_eq_some_iff.1 hv).1
  rw [Nat.zero_add, Im.cells_g _ _ _ j hj]
  simpa using hv
theorem im_load_ros_g (hw : Region.wanted o (yielded ops a.tmps) = true) (ho : o.op = .load 33 x) (h : LoadIm ops Q rest o.dst (a.eval x) 59 (fun _ _ r => Ros.cells r) a w) : wpList Tryz.prog ops Q (o :: rest) a w := by
  obtain ⟨B, g, s, r, hx, hB, h⟩ := h
  refine wpList_load_part_g hw ho hx hB (Ros.cells r).toList (fun j v hv => ?_) Tryz.underlying33 rfl ros_info h
  rw [Im.cells_r]
  simpa using hv
theorem im_load_seats (hgd : o.guard = none) (ho : o.op = .load 31 x) (h : LoadIm ops Q rest o.dst (a.eval x) 60 (fun _ _ r => (Ros.seatCells r).toArray) a w) : wpList Tryz.prog ops Q (o :: rest) a w := by
  obtain ⟨B, g, s, r, hx, hB, h⟩ := h
  refine wpList_load_part hgd ho hx hB (Ros.seatCells r) (fun j v hv => ?_) Tryz.underlying31 rfl seats_info h
  rw [show 60 + j = 59 + (1 + j) by omega, Im.cells_r]
  rw [← hv]
  simp [Ros.cells, Nat.add_comm]
end

theorem seat_index (r : Ros.R) (k : Nat) (hk : k < 8) (W : World) : (Instr.index 31 (.agg (Ros.seatCells r).toArray) (.int .i64 (k : Int))).run Tryz.prog W = .ok (.agg #[.int .i64 (r.peer k), .int .i64 (r.gen k)]) W := by
  have h := seat_part r k hk W
  rw [show (Ros.pair r k).toArray = #[.int .i64 (r.peer k), .int .i64 (r.gen k)] from rfl] at h
  have hk8 : (k : Int) < 8 := by omega
  have hc : Tryz.prog.cellsOf 30 = 2 := by kernel_rfl
  cases hq : Tryz.prog.info? 30 with
  | none => have := seat2_info; simp [hq] at this
  | some i =>
    have hi : i.size = 2 := by have := seat2_info; simpa [hq] using this
    simp [Instr.index, run_underlying (Tryz.underlying31) W, h, hk8, sizeOf, typeInfo, hq, hi, go_sem]
    rw [if_pos hk, seatCells_list r k hk]
    rfl
set_option maxRecDepth 100000 in
set_option maxHeartbeats 4000000 in
theorem immay_any (g : Gm.G) (r : Ros.R) (A : Option Addr) (n c : Nat) (w : World) (hty : Gm.ty g) (hn : n = g.shots.length) (hn63 : n ≤ maxLen) (hr : Lies w w.heap.size 6 A n (Gm.shotCells g.shots)) :
    Calls Tryz.prog 73 #[.agg (Im.cells g (.slice A n c) r)] w fun e w' => (∃ v, e = .returned (.bool v) ∧ (v = true ↔ Im.Ok g r)) ∧ Below w.heap.size w w' := by
  have P0 := Lib.hid (Box.made w 35 (Im.cells g (.slice A n c) r))
  have K0 := Lib.hid (one_below w (.cells (Im.cells g (.slice A n c) r) 35))
  have hr0 := (hr.below K0.out).wider K0.out.size
  by_cases hg : Gm.ok g
  · have cg := fun X hX => Lib.hid (may_yes g A n c X hg hn hX)
    have cr := fun X => Lib.hid (rosmay_any r X)
    by_cases hok : Ros.Ok r
    · rw [show Ros.may r = true from decide_eq_true hok] at cr
      have HG := Lib.hid hg
      have HR := Lib.hid hok
      have hq := Lib.hid hr0
      clear hr hr0 hn hty hg hok
      go_enter Tryz.func73, Tryz.ntmps73
      go_wp2_with (first | ((with_reducible refine im_load_game rfl rfl ?_); apply LoadIm.mk rfl; (focus (with_reducible exact P0.out)); dsimp only) | ((with_reducible refine im_load_ros_g ?_ rfl ?_); (focus first | rfl | kernel_rfl | simp [Region.wanted, yielded]); apply LoadIm.mk rfl; (focus (with_reducible exact P1.out)); dsimp only) | ((with_reducible refine im_load_seats rfl rfl ?_); apply LoadIm.mk rfl; (focus (with_reducible exact P2.out)); dsimp only) | (go_at_call 24; ((with_reducible refine ((cg _ hq.out).out).mono ?_); rintro e w1 ⟨rfl, hb⟩; have P1 := Lib.hid (P0.out.below hb P0.out.lt); have K1 := Lib.hid (K0.out.trans (hb.mono K0.out.size)); clear hb)) | (go_at_call 54; ((with_reducible refine ((cr _).out).mono ?_); rintro e w2 ⟨rfl, hb⟩; have P2 := Lib.hid (P1.out.below hb P1.out.lt); have K2 := Lib.hid (K1.out.trans (hb.mono K1.out.size)); clear hb)))
      go_loopw [18] (fun i wr => ∃ k : Nat, k ≤ 8 ∧ i = .int .i64 k ∧ Box wr w.heap.size 35 (Im.cells g (.slice A n c) r) ∧ Below w.heap.size w wr ∧ ∀ j, j < k → (g.ship j).on = decide (0 ≤ r.peer j)) (fun i _ => 8 - (intOf i).toNat)
      case atStart => exact ⟨0, by omega, rfl, P2.out, K2.out, fun j hj => absurd hj (Nat.not_lt_zero j)⟩
      case round =>
        obtain ⟨k, hk, rfl, hB, hb, hall⟩ := hrel
        clear P0 K0 P1 K1 P2 K2 hq
        by_cases hlt : k < 8
        · have hk8 : (k : Int) < 8 := by omega
          have hpart := seat_index r k hlt
          have e0 := (hB.cell (2 + k * 7)).trans (Im.cells_ship g _ r k 0 hlt (by omega))
          simp only [Gm.Ship.cells, List.getElem?_cons_zero] at e0
          have hcell : ∀ o, (wr.alloc o).cell? ⟨w.heap.size, 2 + k * 7, none⟩ = some (.bool (g.ship k).on) := fun o => ((hB.alloc o).cell _).trans ((Im.cells_ship g _ r k 0 hlt (by omega)).trans rfl)
          obtain ⟨on, hon⟩ : ∃ on, on = (g.ship k).on := ⟨_, rfl⟩
          obtain ⟨pk, hpk⟩ : ∃ pk, pk = r.peer k := ⟨_, rfl⟩
          obtain ⟨gk, hgk⟩ : ∃ gk, gk = r.gen k := ⟨_, rfl⟩
          rw [← hon] at e0 hcell
          rw [← hpk, ← hgk] at hpart
          have HON := Lib.hid hon
          have HPK := Lib.hid hpk
          have HALL := Lib.hid hall
          have HB := Lib.hid hB
          have HBB := Lib.hid hb
          clear hon hpk hgk hall hB hb
          by_cases hm : on = decide (0 ≤ pk)
          · have hnew := Lib.hid (show ∀ j, j < k + 1 → (g.ship j).on = decide (0 ≤ r.peer j) from fun j hj => by
              by_cases e : j = k
              · rw [e, ← HON.out, ← HPK.out]; exact hm
              · exact HALL.out j (by omega))
            cases hd : decide (0 ≤ pk)
            · rw [hd] at hm
              subst hm
              go_upto_region 6 with fail
              go_quiet (fail)
              go_wp2
              go_roundw
              case rel => exact ⟨k + 1, by omega, by go_num, (HB.out.alloc _).draws _, draws_below (HBB.out.alloc HBB.out.size _) _, hnew.out⟩
              case measure => simp [intOf]; omega
            · rw [hd] at hm
              subst hm
              go_upto_region 6 with fail
              go_quiet (fail)
              go_wp2
              go_roundw
              case rel => exact ⟨k + 1, by omega, by go_num, (HB.out.alloc _).draws _, draws_below (HBB.out.alloc HBB.out.size _) _, hnew.out⟩
              case measure => simp [intOf]; omega
          · have hno := Lib.hid (show ¬ Im.Ok g r from fun h => hm (by rw [HON.out, HPK.out]; exact h.2.2 k hlt))
            cases hd : decide (0 ≤ pk)
            · obtain rfl : on = true := by
                cases on
                · exact absurd hd.symm hm
                · rfl
              clear hm
              go_upto_region 6 with fail
              go_quiet (fail)
              go_wp2
              go_ret
              exact ⟨by first | exact ⟨false, rfl, by simp; exact hno.out⟩ | exact .inl ⟨rfl, hno.out⟩, draws_below (HBB.out.alloc HBB.out.size _) _⟩
            · obtain rfl : on = false := by
                cases on
                · rfl
                · exact absurd hd.symm hm
              clear hm
              go_upto_region 6 with fail
              go_quiet (fail)
              go_wp2
              go_ret
              exact ⟨by first | exact ⟨false, rfl, by simp; exact hno.out⟩ | exact .inl ⟨rfl, hno.out⟩, draws_below (HBB.out.alloc HBB.out.size _) _⟩
        · have hk8 : ¬ (k : Int) < 8 := by omega
          have hyes := Lib.hid (show Im.Ok g r from ⟨HG.out, HR.out, fun j hj => hall j (by omega)⟩)
          have HBB := Lib.hid hb
          clear hall hB hb
          go_wp2
          go_ret
          exact ⟨by first | exact ⟨true, rfl, by simp; exact hyes.out⟩ | exact .inr ⟨rfl, hyes.out⟩, HBB.out⟩
    · rw [show Ros.may r = false from decide_eq_false hok] at cr
      have hno := Lib.hid (show ¬ Im.Ok g r from fun h => hok h.2.1)
      have hq := Lib.hid hr0
      clear hr hr0 hn hty hg hok
      go_enter Tryz.func73, Tryz.ntmps73
      go_wp2_with (first | ((with_reducible refine im_load_game rfl rfl ?_); apply LoadIm.mk rfl; (focus (with_reducible exact P0.out)); dsimp only) | ((with_reducible refine im_load_ros_g ?_ rfl ?_); (focus first | rfl | kernel_rfl | simp [Region.wanted, yielded]); apply LoadIm.mk rfl; (focus (with_reducible exact P1.out)); dsimp only) | ((with_reducible refine im_load_seats rfl rfl ?_); apply LoadIm.mk rfl; (focus (with_reducible exact P2.out)); dsimp only) | (go_at_call 24; ((with_reducible refine ((cg _ hq.out).out).mono ?_); rintro e w1 ⟨rfl, hb⟩; have P1 := Lib.hid (P0.out.below hb P0.out.lt); have K1 := Lib.hid (K0.out.trans (hb.mono K0.out.size)); clear hb)) | (go_at_call 54; ((with_reducible refine ((cr _).out).mono ?_); rintro e w2 ⟨rfl, hb⟩; have P2 := Lib.hid (P1.out.below hb P1.out.lt); have K2 := Lib.hid (K1.out.trans (hb.mono K1.out.size)); clear hb)))
      go_ret
      exact ⟨by first | exact ⟨false, rfl, by simp; exact hno.out⟩ | exact .inl ⟨rfl, hno.out⟩, K2.out⟩
  · have cg := fun X hX => Lib.hid (may_not g A n c X hg hty hn hn63 hX)
    have hno := Lib.hid (show ¬ Im.Ok g r from fun h => hg h.1)
    have hq := Lib.hid hr0
    clear hr hr0 hn hty hg
    go_enter Tryz.func73, Tryz.ntmps73
    go_wp2_with (first | ((with_reducible refine im_load_game rfl rfl ?_); apply LoadIm.mk rfl; (focus (with_reducible exact P0.out)); dsimp only) | ((with_reducible refine im_load_ros_g ?_ rfl ?_); (focus first | rfl | kernel_rfl | simp [Region.wanted, yielded]); apply LoadIm.mk rfl; (focus (with_reducible exact P1.out)); dsimp only) | ((with_reducible refine im_load_seats rfl rfl ?_); apply LoadIm.mk rfl; (focus (with_reducible exact P2.out)); dsimp only) | (go_at_call 24; ((with_reducible refine ((cg _ hq.out).out).mono ?_); rintro e w1 ⟨rfl, hb⟩; have P1 := Lib.hid (P0.out.below hb P0.out.lt); have K1 := Lib.hid (K0.out.trans (hb.mono K0.out.size)); clear hb)) | (go_at_call 54; ((with_reducible refine ((cr _).out).mono ?_); rintro e w2 ⟨rfl, hb⟩; have P2 := Lib.hid (P1.out.below hb P1.out.lt); have K2 := Lib.hid (K1.out.trans (hb.mono K1.out.size)); clear hb)))
    go_ret
    exact ⟨by first | exact ⟨false, rfl, by simp; exact hno.out⟩ | exact .inl ⟨rfl, hno.out⟩, K1.out⟩
end Go.Proofs.YtkkhdaeihnbilaaGreat
namespace Im
open Go
end Im
namespace Rp
open Go
section
variable {P : Program} {st : List Nat} {E C D : World → Prop} {Q : Act → (World → Prop) → Prop} {o : Oper} {rest : List Oper} {n : Nat} {a : Act}
end
end Rp
namespace Go.Proofs.YtkkhdaeihnbilaaGreat
open Go.RowKit Go.Shelf
set_option linter.unusedVariables false
set_option linter.unusedSimpArgs false

/-- What a reader reads from: the variable in block Bb; what is left of the bytes lies below b; the reader holds the variable's place in block Bp. -/
structure Rd (b Bb Bp : Nat) (bs : List Int) (W : World) : Prop where
  ptr : Box W Bp 115 #[.pointer (some ⟨Bb, 0, none⟩)]
  var : ∃ A c, Box W Bb 72 #[.slice A bs.length c] ∧ bs.length ≤ c ∧ Lies W b 1 A bs.length (Im.u8s bs)
section
variable {b Bb Bp : Nat} {bs : List Int} {W W' : World}
theorem Rd.call (h : Rd b Bb Bp bs W) (hb : Below W.heap.size W W') (hs : b ≤ W.heap.size) : Rd b Bb Bp bs W' := by
  obtain ⟨h1, A, c, h2, hc, h3⟩ := h
  exact ⟨h1.below hb h1.lt, A, c, h2.below hb h2.lt, hc, h3.below (hb.mono hs)⟩
theorem Rd.off (h : Rd b Bb Bp bs W) {p : Addr} {t : TypeId} {cs : Array Value} (hp : Box W p.block t cs) (h1 : t ≠ 115) (h2 : t ≠ 72) (hb : b ≤ p.block) (u : Value) : Rd b Bb Bp bs (W.setCell p u) := by
  obtain ⟨k1, A, c, k2, kc, k3⟩ := h
  exact ⟨k1.far (fun e => Box.apart k1 hp (fun e' => h1 e'.symm) e) u, A, c, k2.far (fun e => Box.apart k2 hp (fun e' => h2 e'.symm) e) u, kc, k3.stays fun i hi => heap_setCell_other W p i u (by omega)⟩
theorem Rd.offRow (h : Rd b Bb Bp bs W) {p : Nat} {t : TypeId} {cs : Array Value} (hp : Box W p t cs) (h1 : t ≠ 115) (h2 : t ≠ 72) (hb : b ≤ p) (cs' : Array Value) : Rd b Bb Bp bs (W.setRow p cs') := by
  obtain ⟨k1, A, c, k2, kc, k3⟩ := h
  exact ⟨k1.row_far (fun e => Box.apart k1 hp (fun e' => h1 e'.symm) e) cs', A, c, k2.row_far (fun e => Box.apart k2 hp (fun e' => h2 e'.symm) e) cs', kc, k3.stays fun i hi => setRow_other W p i cs' (by omega)⟩
theorem Rd.isvar (h : Rd b Bb Bp bs W) : ∃ A n c, Box W Bb 72 #[.slice A n c] := by
  obtain ⟨_, A, c, k2, _⟩ := h
  exact ⟨A, _, c, k2⟩
theorem Rd.ne (h : Rd b Bb Bp bs W) : Bp ≠ Bb := by
  obtain ⟨h1, A, c, h2, _⟩ := h
  exact Box.apart h1 h2 (by decide)
end

theorem Lies.rest {w : World} {b k n c : Nat} {ad : Addr} {xs rest : List Int} (h : Lies w b 1 (some ad) n (Im.u8s (xs ++ rest))) (m : Nat) (hx : xs.length = k) (hc : n ≤ c) (hn : n = k + m) : Lies w b 1 (if c = k then some ad else some (ad.add k)) m (Im.u8s rest) := by
  have hl := h.len
  rw [Im.u8s_len, List.length_append, hx] at hl
  have hm : rest.length = m := by omega
  refine ⟨by rw [Im.u8s_len]; omega, fun h0 => ?_, fun ad' e h0 j u hj => ?_⟩
  · rw [if_neg (by omega)]
    obtain ⟨ad2, e2, hb⟩ := h.start (by omega)
    injection e2 with e2
    subst e2
    exact ⟨_, rfl, by rw [add_block]; exact hb⟩
  · rw [if_neg (by omega)] at e
    injection e with e
    subst e
    have := h.cell ad rfl (by omega) (k + j) u (by
      rw [Im.u8s_append, List.getElem?_append_right (by rw [Im.u8s_len]; omega), Im.u8s_len, hx, Nat.add_sub_cancel_left]
      exact hj)
    rw [← this]
    congr 1
    unfold Addr.add
    by_cases hk0 : k = 0 <;> by_cases hj0 : j = 0 <;> simp [hk0, hj0, Nat.add_assoc]

end Go.Proofs.YtkkhdaeihnbilaaGreat
namespace Im
open Go
/-- The byte at place k of a number. -/
def byte (v : Int) (k : Nat) : Int := v / 2 ^ (8 * k) % 256
/-- The cells cs' are cs, but for those from o on that are l. -/
def Patch (cs : Array Value) (o : Nat) (l : List Value) (cs' : Array Value) : Prop := ∀ j, cs'[j]? = if o ≤ j ∧ j < o + l.length then l[j - o]? else cs[j]?
theorem Patch.nil (cs : Array Value) (o : Nat) : Patch cs o [] cs := fun j => by rw [if_neg (by simp)]
theorem Patch.one {cs : Array Value} {o : Nat} {u : Value} (v : Value) (h : cs[o]? = some u) : Patch cs o [v] (cs.setIfInBounds o v) := fun j => by
  have ho : o < cs.size := (Array.getElem?_eq_some_iff.1 h).1
  by_cases e : o = j
  · subst e
    simp [ho]
  · rw [if_neg (by simp; omega), Array.getElem?_setIfInBounds_ne e]
theorem Patch.trans {cs cs' cs'' : Array Value} {o p : Nat} {l m : List Value} (h : Patch cs o l cs') (k : Patch cs' p m cs'') (hp : p = o + l.length) : Patch cs o (l ++ m) cs'' := fun j => by
  rw [k j, h j, List.length_append]
  subst hp
  by_cases h1 : o ≤ j ∧ j < o + l.length
  · rw [if_pos h1, if_neg (by omega), if_pos (by omega), List.getElem?_append_left (by omega)]
  · by_cases h2 : o + l.length ≤ j ∧ j < o + l.length + m.length
    · rw [if_pos h2, if_pos (by omega), List.getElem?_append_right (by omega)]
      congr 1; omega
    · rw [if_neg h2, if_neg h1, if_neg (by omega)]
theorem Patch.cell {cs cs' : Array Value} {o : Nat} {l : List Value} (h : Patch cs o l cs') {j : Nat} (hj : j < o ∨ o + l.length ≤ j) : cs'[j]? = cs[j]? := by rw [h j, if_neg (by omega)]
theorem Patch.at {cs cs' : Array Value} {o : Nat} {l : List Value} (h : Patch cs o l cs') (i : Nat) (hi : i < l.length) : cs'[o + i]? = l[i]? := by rw [h (o + i), if_pos (by omega), Nat.add_sub_cancel_left]
/-- What stands there already may be said to be patched, too. -/
theorem Patch.more {cs cs' : Array Value} {o : Nat} {l : List Value} (h : Patch cs o l cs') (m : List Value) (hm : ∀ i, i < m.length → cs[o + l.length + i]? = m[i]?) : Patch cs o (l ++ m) cs' := fun j => by
  rw [h j, List.length_append]
  by_cases h1 : o ≤ j ∧ j < o + l.length
  · rw [if_pos h1, if_pos (by omega), List.getElem?_append_left (by omega)]
  · rw [if_neg h1]
    by_cases h2 : o + l.length ≤ j ∧ j < o + l.length + m.length
    · rw [if_pos (by omega), List.getElem?_append_right (by omega), ← hm _ (by omega)]
      congr 1; omega
    · rw [if_neg (by omega)]
end Im
namespace Go.Proofs.YtkkhdaeihnbilaaGreat
open Go.RowKit Go.Shelf
set_option linter.unusedVariables false
set_option linter.unusedSimpArgs false

/-- What a reader does to the world, where it lays what it reads in block P. -/
structure Rk (b Bb P : Nat) (w w' : World) : Prop where
  below : Below b w w'
  kb : Kb P w w'

section
variable {b Bb P L : Nat} {w w0 w1 : World}
theorem Kb.fresh (h : Kb P w w0) (k : Kb L w0 w1) (hL : w.heap.size ≤ L) : Kb P w w1 := fun g t cs hg hne h1 h2 => k g t cs (h g t cs hg hne h1 h2) (by have := hg.lt; omega) h1 h2
theorem Rk.trans (h : Rk b Bb P w w0) (k : Rk b Bb P w0 w1) : Rk b Bb P w w1 := ⟨h.below.trans k.below, h.kb.trans k.kb⟩
theorem Rk.alloc (hb : b ≤ w.heap.size) (o : Obj) : Rk b Bb P w (w.alloc o) := ⟨(one_below w o).mono hb, (Kb.refl w).call (one_below w o)⟩
theorem Rk.put (h : Rk b Bb P w w0) (hb : b ≤ P) (i : Nat) (u : Value) : Rk b Bb P w (w0.setCell ⟨P, i, none⟩ u) := ⟨h.below.setCell hb _, h.kb.put i u⟩
theorem Rk.refl (b Bb P : Nat) (w : World) : Rk b Bb P w w := ⟨Below.refl _ _, Kb.refl w⟩
end
end Go.Proofs.YtkkhdaeihnbilaaGreat
namespace Im
open Go
def IsBytes (bs : List Int) : Prop := ∀ x ∈ bs, 0 ≤ x ∧ x ≤ 255
theorem IsBytes.nil : IsBytes [] := fun _ h => by cases h
theorem IsBytes.drop {bs : List Int} (h : IsBytes bs) (n : Nat) : IsBytes (bs.drop n) := fun x hx => h x (List.mem_of_mem_drop hx)
theorem IsBytes.take {bs : List Int} (h : IsBytes bs) (n : Nat) : IsBytes (bs.take n) := fun x hx => h x (List.mem_of_mem_take hx)
end Im
namespace Go.Proofs.YtkkhdaeihnbilaaGreat
open Go.RowKit Go.Shelf
set_option linter.unusedVariables false
set_option linter.unusedSimpArgs false

end Go.Proofs.YtkkhdaeihnbilaaGreat
namespace En
open Go Im
structure Ev where
  kind : Int
  slot : Int
  gen : Int
  peer : Int
/-- An entry: of the inputs those of slots 0 to 7 count. -/
structure E where
  frame : Int
  evs : List Ev
  inp : Nat → Gm.In
def Ev.cells (v : Ev) : List Value := [.int .i64 v.kind, .int .i64 v.slot, .int .i64 v.gen, .int .i64 v.peer]
def evCells (l : List Ev) : List Value := l.flatMap Ev.cells
theorem evCells_at (l : List Ev) (k j : Nat) (hk : k < l.length) (hj : j < 4) : (evCells l)[k * 4 + j]? = l[k].cells[j]? := by
  induction l generalizing k with
  | nil => simp at hk
  | cons s l ih =>
    unfold evCells at *
    rw [List.flatMap_cons]
    match k with
    | 0 => rw [List.getElem?_append_left (by simp [Ev.cells]; omega)]; simp
    | k + 1 =>
      rw [List.getElem?_append_right (by simp [Ev.cells]; omega)]
      have := ih k (by simpa using hk)
      rw [show (k + 1) * 4 + j - s.cells.length = k * 4 + j from by simp [Ev.cells]; omega, this]
      simp
/-- The 26 cells of an entry whose events are the slice s. -/
def cells (e : E) (s : Value) : Array Value := ([Value.int .i64 e.frame, s] ++ Gm.insCells e.inp).toArray
theorem cells_size (e : E) (s : Value) : (cells e s).size = 26 := rfl
theorem cells_0 (e : E) (s : Value) : (cells e s)[0]? = some (.int .i64 e.frame) := rfl
theorem cells_1 (e : E) (s : Value) : (cells e s)[1]? = some s := rfl
theorem cells_in (e : E) (s : Value) (i k : Nat) (hi : i < 8) (hk : k < 3) : (cells e s)[2 + i * 3 + k]? = (e.inp i).cells[k]? := by
  match i, hi with
  | 0, _ => match k, hk with | 0, _ | 1, _ | 2, _ => rfl
  | 1, _ => match k, hk with | 0, _ | 1, _ | 2, _ => rfl
  | 2, _ => match k, hk with | 0, _ | 1, _ | 2, _ => rfl
  | 3, _ => match k, hk with | 0, _ | 1, _ | 2, _ => rfl
  | 4, _ => match k, hk with | 0, _ | 1, _ | 2, _ => rfl
  | 5, _ => match k, hk with | 0, _ | 1, _ | 2, _ => rfl
  | 6, _ => match k, hk with | 0, _ | 1, _ | 2, _ => rfl
  | 7, _ => match k, hk with | 0, _ | 1, _ | 2, _ => rfl
theorem cells_ins (e : E) (s : Value) : ∀ j v, (Gm.insCells e.inp)[j]? = some v → (cells e s)[2 + j]? = some v := fun j v hv => by
  unfold cells
  rw [List.getElem?_toArray, List.getElem?_append_right (by simp)]
  simpa using hv
theorem cells_one (e : E) (s : Value) (h : s.oneCell' = true) : (cells e s).all (·.oneCell') = true := by
  refine Array.all_eq_true_iff_forall_mem.2 fun v hv => ?_
  have hv : v ∈ [Value.int .i64 e.frame, s] ++ Gm.insCells e.inp := by simpa [cells] using hv
  simp only [Gm.insCells, Gm.In.cells, List.mem_append, List.mem_cons, List.not_mem_nil, or_false] at hv
  rcases hv with (rfl | rfl) | hv
  · rfl
  · exact h
  · rcases hv with hv | hv | hv | hv | hv | hv | hv | hv <;> (rcases hv with rfl | rfl | rfl <;> rfl)
def upd (f : Nat → Gm.In) (i : Nat) (p : Gm.In) : Nat → Gm.In := fun j => if j = i then p else f j
theorem upd_same (f : Nat → Gm.In) (i : Nat) (p : Gm.In) : upd f i p i = p := by unfold upd; rw [if_pos rfl]
theorem upd_other (f : Nat → Gm.In) {i j : Nat} (p : Gm.In) (h : j ≠ i) : upd f i p j = f j := by unfold upd; rw [if_neg h]
/-- Two entries that are alike where it counts lie alike. -/
def Like (e o : E) : Prop := e.frame = o.frame ∧ e.evs = o.evs ∧ ∀ i, i < 8 → e.inp i = o.inp i
def evOk (v : Ev) : Prop := (v.kind = 2 ∨ v.kind = 1) ∧ (0 ≤ v.slot ∧ v.slot < 8) ∧ (1 ≤ v.gen ∧ v.gen ≤ 60000) ∧ 0 ≤ v.peer ∧ v.peer < 12
instance (v : Ev) : Decidable (evOk v) := by unfold evOk; infer_instance
def place (v : Ev) : Int := if v.kind = 2 then v.slot else 8 + v.slot
def Row : Int → List Ev → Prop
  | _, [] => True
  | last, v :: l => (evOk v ∧ last < place v) ∧ Row (place v) l
instance rowDec : ∀ (last : Int) (l : List Ev), Decidable (Row last l)
  | _, [] => .isTrue trivial
  | last, v :: l => by unfold Row; exact @instDecidableAnd _ _ _ (rowDec (place v) l)
theorem place_lt {v : Ev} (h : evOk v) : 0 ≤ place v ∧ place v < 16 := by
  obtain ⟨h1, h2, _⟩ := h
  unfold place
  split <;> omega
theorem row_len : ∀ (l : List Ev) (last : Int), -1 ≤ last → last < 16 → Row last l → (l.length : Int) ≤ 15 - last
  | [], last, _, h, _ => by simp; omega
  | v :: l, last, h0, h1, h => by
    obtain ⟨⟨h2, h3⟩, h4⟩ := h
    have hp := place_lt h2
    have := row_len l (place v) (by omega) (by omega) h4
    simp only [List.length_cons]
    omega
theorem row_mem : ∀ (l : List Ev) (last : Int), Row last l → ∀ v ∈ l, evOk v
  | v :: l, last, h, u, hu => by
    rcases List.mem_cons.1 hu with rfl | hu
    · exact h.1.1
    · exact row_mem l _ h.2 u hu
def inOk (p : Gm.In) : Prop := -127 ≤ p.x ∧ -127 ≤ p.y
instance (p : Gm.In) : Decidable (inOk p) := by unfold inOk; infer_instance
structure Ok (e : E) : Prop where
  frame : 0 ≤ e.frame ∧ e.frame < 1048576
  row : Row (-1) e.evs
  ins : ∀ i, i < 8 → inOk (e.inp i)
instance (e : E) : Decidable (Ok e) := decidable_of_iff ((0 ≤ e.frame ∧ e.frame < 1048576) ∧ Row (-1) e.evs ∧ ∀ i, i < 8 → inOk (e.inp i)) ⟨fun h => ⟨h.1, h.2.1, h.2.2⟩, fun h => ⟨h.frame, h.row, h.ins⟩⟩
theorem Ok.count {e : E} (h : Ok e) : e.evs.length ≤ 16 := by
  have := row_len e.evs (-1) (by omega) (by omega) h.row
  omega
def i64 (x : Int) : Prop := -9223372036854775808 ≤ x ∧ x ≤ 9223372036854775807
def tyEv (v : Ev) : Prop := i64 v.kind ∧ i64 v.slot ∧ i64 v.gen ∧ i64 v.peer
theorem evOk.ty {v : Ev} (h : evOk v) : tyEv v := by
  obtain ⟨h1, h2, h3, h4⟩ := h
  unfold tyEv i64
  omega

def zero (p : Gm.In) : Bool := decide (p.x = 0 ∧ p.y = 0 ∧ p.b = 0)
def mask (f : Nat → Gm.In) : Nat → Nat
  | 0 => 0
  | k + 1 => mask f k + (if zero (f k) then 0 else 2 ^ k)
def evBytes (v : Ev) : List Int := bytesOf 1 v.kind ++ (bytesOf 1 v.slot ++ (bytesOf 2 v.gen ++ bytesOf 1 v.peer))
def evsBytes (l : List Ev) : List Int := l.flatMap evBytes
def inBytes (p : Gm.In) : List Int := bytesOf 1 p.x ++ (bytesOf 1 p.y ++ bytesOf 1 p.b)
def insBytes (f : Nat → Gm.In) : Nat → List Int
  | 0 => []
  | k + 1 => insBytes f k ++ (if zero (f k) then [] else inBytes (f k))
theorem evBytes_len (v : Ev) : (evBytes v).length = 5 := by unfold evBytes; simp only [List.length_append, bytesOf_len]
theorem inBytes_len (p : Gm.In) : (inBytes p).length = 3 := by unfold inBytes; simp only [List.length_append, bytesOf_len]
theorem evsBytes_len (l : List Ev) : (evsBytes l).length = 5 * l.length := by
  induction l with
  | nil => rfl
  | cons s l ih => unfold evsBytes at *; rw [List.flatMap_cons, List.length_append, ih, evBytes_len, List.length_cons]; omega
theorem insBytes_le (f : Nat → Gm.In) : ∀ k, (insBytes f k).length ≤ 3 * k
  | 0 => Nat.le_refl _
  | k + 1 => by
    unfold insBytes
    have := insBytes_le f k
    rw [List.length_append]
    split
    · simp; omega
    · rw [inBytes_len]; omega
/-- An entry's bytes. -/
def put (e : E) : List Int := bytesOf 4 e.frame ++ ((bytesOf 1 e.evs.length ++ evsBytes e.evs) ++ (bytesOf 1 (mask e.inp 8) ++ insBytes e.inp 8))
theorem put_le {e : E} (h : e.evs.length ≤ 16) : (put e).length ≤ 110 := by
  have h1 := evsBytes_len e.evs
  have h2 := insBytes_le e.inp 8
  unfold put
  simp only [List.length_append, bytesOf_len]
  omega
end En
namespace Go.Proofs.YtkkhdaeihnbilaaGreat
open Go.RowKit
set_option linter.unusedVariables false

theorem and_one {p : Int} (wp : 0 ≤ p ∧ p ≤ 255) : bits .and .u8 p 1 = p % 2 := by
  rw [u8_and p 1 wp.1 (by omega) (by decide) (by decide)]
  show ((p.toNat &&& 1 : Nat) : Int) = p % 2
  rw [Nat.and_one_is_mod]; omega
theorem append_runs {P : Program} (w : World) {t ty e : TypeId} {i : TypeInfo} {z : Value} {size bytes : Nat} (ht : P.underlying t = some (.slice e)) (hi : P.info? e = some i) (hz : i.zero = some z) (hs : i.size = size) (hby : i.bytes = bytes) (hzs : z.cells.size = size) (hsz : 0 < size)
    {base n : Nat} {v : Value} {xs : List Value} (ho : w.ownsRow base e size v n xs) {ad : Addr} {m c : Nat} {news : List Value} (hl : Lies w w.heap.size size (some ad) m news) (hm : m ≠ 0) (h1 : ∀ u ∈ news, u.oneCell' = true) (h63 : n + m ≤ maxLen) (hb : (n + m) * bytes ≤ 140737488355328) (hbase : base ≤ w.heap.size) :
    ∃ A' c' w', (Builtin.append_ #[t, t] ty #[v, .slice (some ad) m c]).run P w = .ok (.slice A' (n + m) c') w' ∧ w'.ownsRow base e size (.slice A' (n + m) c') (n + m) (xs ++ news) ∧ w.grownBy w' v.ownBlock := by
  obtain ⟨v', w', hr, h2, h3, _, _⟩ := run_append_own_at (P := P) w base t ty e i z size bytes ht hi hz hs hby hzs hsz v n xs ho ad m c news hl.len (fun j u hu => hl.cell ad rfl hm j u hu) h1 h63 hb hbase
  obtain ⟨A', c', rfl⟩ := owned_slice h2
  exact ⟨A', c', w', hr, h2, h3⟩

theorem exec_append {P : Program} {o : Oper} {a : Act} {x y : Operand} {ts : Array TypeId} {W W' : World} {v1 v2 r : Value} (ho : o.op = .call { callee := .builtin .append, args := #[x, y], argTypes := ts }) (hx : a.eval x = v1) (hy : a.eval y = v2) (hr : (Builtin.append_ ts o.type #[v1, v2]).run P W = .ok r W') :
    (execOp a.eval o).run P W = .ok (.value r) W' := by
  unfold execOp
  simp only [ho, resolve, invoke, builtin, Sem.run_bind, Sem.run_pure, Result.andThen_ok, List.map_toArray, List.map_cons, List.map_nil, hx, hy, hr]

/-- What a shooting slot leaves. -/
def shotG (g : Gm.G) (k : Nat) (x y p : Int) : Gm.G :=
  if 0 < (g.ship k).cool then shipG g k { g.ship k with cool := (g.ship k).cool - 1 }
  else if p % 2 = 1 ∧ g.shots.length < 32 then { shipG g k { g.ship k with cool := 10 } with shots := g.shots ++ [⟨k, (g.ship k).x, (g.ship k).y, Gf.aimx x y, Gf.aimy y, 24⟩] }
  else g

theorem Has.field {b B k : Nat} {g : Gm.G} {w : World} (h : Has b B g w) {t' : Gm.Ship} {i : Nat} {u : Value} (he : ∀ s, (Gm.cells (shipG g k (g.ship k)) s).setIfInBounds i u = Gm.cells (shipG g k t') s) : Has b B (shipG g k t') (w.setCell ⟨B, i, none⟩ u) :=
  h.put rfl (fun s hB => he s ▸ (by rw [shipG, Gm.upd_self]; exact hB.put i u)) (fun j hj => heap_setCell_other _ _ j _ hj)

set_option maxRecDepth 100000 in
set_option maxHeartbeats 2000000 in
theorem shoot_cool (g : Gm.G) (b B k : Nat) (x y p : Int) (w : World) (hbB : b ≤ B) (hk : k < 8) (h : Has b B g w) (hc : 0 < (g.ship k).cool ∧ (g.ship k).cool ≤ 10) :
    Calls Tryz.prog 102 #[.pointer (some ⟨B, 0, none⟩), .int .i64 k, .agg #[.int .i8 x, .int .i8 y, .int .u8 p]] w fun e w' => (∃ v, e = .returned v) ∧ Has b B (shipG g k { g.ship k with cool := (g.ship k).cool - 1 }) w' ∧ Keep b B w w' := by
  have HH := Lib.hid (h.alloc (.cells #[.int .i8 x, .int .i8 y, .int .u8 p] 39))
  have HK := Lib.hid ((Keep.refl hbB w).alloc (.cells #[.int .i8 x, .int .i8 y, .int .u8 p] 39))
  have hr := Lib.hid (h.alloc (.cells #[.int .i8 x, .int .i8 y, .int .u8 p] 39) |>.field (k := k) (t' := { g.ship k with cool := (g.ship k).cool - 1 }) (fun s => set_cool g s k (g.ship k) hk ((g.ship k).cool - 1)))
  obtain ⟨A, c, hB, hO⟩ := HH.out
  have c0 := hB.cell
  have f0 := hB.free
  have s5 := Gm.cells_ship g (.slice A g.shots.length c) k 5 hk (by omega)
  simp only [Gm.Ship.cells, List.getElem?_cons_zero, List.getElem?_cons_succ] at s5
  have hk8 : (k : Int) < 8 := by omega
  generalize (g.ship k).cool = q at *
  have hq : IntKind.i64.wrap (q - 1) = q - 1 := by rw [IntKind.wrap_i64]; omega
  clear hB hO h
  go_enter Tryz.func102, Tryz.ntmps102
  go_wp2
  refine bodyPost_ret (results_none rfl _ _ _) rfl ?_
  exact ⟨⟨_, rfl⟩, hr.out, HK.out.put _ _⟩

set_option maxRecDepth 100000 in
set_option maxHeartbeats 2000000 in
theorem shoot_rest (g : Gm.G) (b B k : Nat) (x y p : Int) (w : World) (hbB : b ≤ B) (hk : k < 8) (h : Has b B g w) (hc : (g.ship k).cool = 0) (wp : 0 ≤ p ∧ p ≤ 255) (hp : ¬ (p % 2 = 1 ∧ g.shots.length < 32)) :
    Calls Tryz.prog 102 #[.pointer (some ⟨B, 0, none⟩), .int .i64 k, .agg #[.int .i8 x, .int .i8 y, .int .u8 p]] w fun e w' => (∃ v, e = .returned v) ∧ Has b B g w' ∧ Keep b B w w' := by
  have HH := Lib.hid (h.alloc (.cells #[.int .i8 x, .int .i8 y, .int .u8 p] 39))
  have HK := Lib.hid ((Keep.refl hbB w).alloc (.cells #[.int .i8 x, .int .i8 y, .int .u8 p] 39))
  obtain ⟨A, c, hB, hO⟩ := HH.out
  have c0 := hB.cell
  have f0 := hB.free
  have s5 := Gm.cells_ship g (.slice A g.shots.length c) k 5 hk (by omega)
  have e58 := Gm.cells_58 g (.slice A g.shots.length c)
  simp only [Gm.Ship.cells, List.getElem?_cons_zero, List.getElem?_cons_succ, hc] at s5
  have hk8 : (k : Int) < 8 := by omega
  clear hB hO h hc
  generalize g.shots.length = m at *
  by_cases hodd : p % 2 = 1
  · have hm32 : (32 : Int) ≤ m := by omega
    have hb1 : bits .and .u8 p 1 = 1 := by rw [and_one wp]; exact hodd
    clear hp hodd
    go_enter Tryz.func102, Tryz.ntmps102
    go_wp2
    refine bodyPost_ret (results_none rfl _ _ _) rfl ?_
    exact ⟨⟨_, rfl⟩, HH.out, HK.out⟩
  · have hb1 : bits .and .u8 p 1 = 0 := by rw [and_one wp]; omega
    clear hp hodd
    go_enter Tryz.func102, Tryz.ntmps102
    go_wp2
    refine bodyPost_ret (results_none rfl _ _ _) rfl ?_
    exact ⟨⟨_, rfl⟩, HH.out, HK.out⟩

set_option maxRecDepth 100000 in
set_option maxHeartbeats 1000000 in
theorem shoot_yes (g : Gm.G) (b B k : Nat) (x y p : Int) (w : World) (hbB : b ≤ B) (hk : k < 8) (h : Has b B g w) (hc : (g.ship k).cool = 0) (wx : -128 ≤ x ∧ x ≤ 127) (wy : -128 ≤ y ∧ y ≤ 127) (wp : 0 ≤ p ∧ p ≤ 255) (hp : p % 2 = 1) (hm : g.shots.length < 32) :
    Calls Tryz.prog 102 #[.pointer (some ⟨B, 0, none⟩), .int .i64 k, .agg #[.int .i8 x, .int .i8 y, .int .u8 p]] w fun e w' => (∃ v, e = .returned v) ∧ Has b B { shipG g k { g.ship k with cool := 10 } with shots := g.shots ++ [⟨k, (g.ship k).x, (g.ship k).y, Gf.aimx x y, Gf.aimy y, 24⟩] } w' ∧ Keep b B w w' := by
  have HH := Lib.hid (h.alloc (.cells #[.int .i8 x, .int .i8 y, .int .u8 p] 39))
  have HK := Lib.hid ((Keep.refl hbB w).alloc (.cells #[.int .i8 x, .int .i8 y, .int .u8 p] 39))
  obtain ⟨A, c, hB, hO⟩ := HH.out
  have c0 := hB.cell
  have f0 := hB.free
  have s5 := Gm.cells_ship g (.slice A g.shots.length c) k 5 hk (by omega)
  have s1 := Gm.cells_ship g (.slice A g.shots.length c) k 1 hk (by omega)
  have s2 := Gm.cells_ship g (.slice A g.shots.length c) k 2 hk (by omega)
  have e58 := Gm.cells_58 g (.slice A g.shots.length c)
  simp only [Gm.Ship.cells, List.getElem?_cons_zero, List.getElem?_cons_succ, hc] at s5 s1 s2
  have hk8 : (k : Int) < 8 := by omega
  have hb1 : bits .and .u8 p 1 = 1 := by rw [and_one wp]; exact hp
  have hm32 : ¬ (32 : Int) ≤ g.shots.length := by omega
  have ca := fun X => Lib.hid (fldaim_any x y p wx wy wp X)
  have BB := Lib.hid hB
  have OO := Lib.hid hO
  clear hB hO h hc hp
  go_enter Tryz.func102, Tryz.ntmps102
  go_upto_region 6 with (go_at_call 130; ((with_reducible refine ((ca _).out).mono ?_); rintro e w1 ⟨rfl, hb1'⟩; have B1 := BB.out.below hb1' BB.out.lt; have c1 := B1.cell; have f1 := B1.free; have HB1 := Lib.hid B1; have O1 := Lib.hid (own_below OO.out hb1' (Nat.le_refl _)); have K1 := Lib.hid (HK.out.call hb1'); clear B1 hb1' c0 f0))
  have ax := Gf.aimx_bd x y
  generalize hAX : Gf.aimx x y = AX at *
  generalize hAY : Gf.aimy y = AY at *
  obtain ⟨i0, hi0, hz0, hz1, hz2⟩ := info_parts shot_info
  have o1 := (O1.out.drew).alloc (.cells #[.int .i64 k, .int .i32 (g.ship k).x, .int .i32 (g.ship k).y, .int .i32 AX, .int .i32 AY, .int .i64 24] 90)
  have bsz := K1.out.size
  obtain ⟨A2, c2, w2, hrun, own2, hg2⟩ := append_runs (P := Tryz.prog) _ (ty := 26) Tryz.underlying26 hi0 hz0 hz1 hz2 rfl (by decide) o1 (c := 1) (lies_made w1.drew 90 ⟨k, (g.ship k).x, (g.ship k).y, AX, AY, 24⟩) (by decide) (shotCells_one _) (by unfold maxLen; omega) (by omega) (by have := HB1.out.lt; simp; omega)
  have B2 := grown_box HB1.out.drew O1.out.drew (by decide) hg2
  have K2 := Lib.hid (K1.out.drew.grown' O1.out.drew hg2)
  have HB2 := Lib.hid B2
  have OW := Lib.hid own2
  have f2 := B2.free
  have k2 := B2.cell
  clear o1 own2 hg2 B2 c1 f1
  refine Rp.wp_region_lex (by kernel_rfl) [] (by kernel_rfl) (· = w1.drew) (fun W => Box W B 28 (Gm.cells g (.slice A g.shots.length c))) (fun _ => True) rfl (fun W hW => ⟨hW ▸ HB1.out.drew, trivial⟩) ?_
  repeat (first
    | (apply Rp.lex_free rfl rfl; focus (intro _; go_simp; first | done | rfl))
    | (apply Rp.lex_look rfl rfl rfl rfl; focus (intro W hW; have c0 := Box.cell hW; clear hW; go_simp; first | done | rfl)))
  refine Rp.lex_make rfl (W' := w1.drew.alloc (.cells #[.int .i64 k, .int .i32 (g.ship k).x, .int .i32 (g.ship k).y, .int .i32 AX, .int .i32 AY, .int .i64 24] 90)) (v := .slice (some ⟨w1.drew.heap.size, 0, none⟩) 1 1) ?_ ⟨HB1.out.drew.alloc _, trivial⟩ ?_
  focus (go_simp; first | done | rfl)
  refine Rp.lex_make rfl (W' := w2) (v := .slice A2 (g.shots.length + 1) c2) (exec_append (x := .tmp 47) (y := .tmp 60) (v1 := .slice A g.shots.length c) (v2 := .slice (some ⟨w1.drew.heap.size, 0, none⟩) 1 1) rfl (by go_simp) (by go_simp) hrun) ⟨HB2.out, trivial⟩ ?_
  repeat (first
    | (apply Rp.lex_free rfl rfl; focus (intro _; go_simp; first | done | rfl))
    | (apply Rp.lex_look rfl rfl rfl rfl; focus (intro W hW; have c0 := Box.cell hW; clear hW; go_simp; first | done | rfl)))
  refine Rp.lex_store rfl rfl (C' := (· = w2.setCell ⟨B, 58, none⟩ (.slice A2 (g.shots.length + 1) c2))) (D' := fun _ => True) (fun W hW => ⟨_, ?_, rfl⟩) (fun _ _ => ⟨trivial, trivial⟩) ?_
  focus (subst hW; go_simp; first | done | rfl)
  refine Rp.lex_end fun W2 hW2 => ?_
  have ne2 := HB2.out.unowned OW.out (by decide)
  have H3 : Has b B { g with shots := g.shots ++ [⟨k, (g.ship k).x, (g.ship k).y, AX, AY, 24⟩] } W2 := by
    subst hW2
    refine ⟨A2, c2, ?_, ?_⟩
    · rw [show (g.shots ++ [(⟨k, (g.ship k).x, (g.ship k).y, AX, AY, 24⟩ : Gm.Shot)]).length = g.shots.length + 1 by simp]
      exact blk_shots HB2.out _
    · dsimp only
      rw [show (g.shots ++ [(⟨k, (g.ship k).x, (g.ship k).y, AX, AY, 24⟩ : Gm.Shot)]).length = g.shots.length + 1 by simp, Gm.shotCells_append]
      exact ownsRow_setCell_other (a := ⟨B, 58, none⟩) OW.out ne2 _
  have K3 : Keep b B w W2 := by subst hW2; exact K2.out.put _ _
  have R3 := Lib.hid (H3.field (k := k) (t' := { g.ship k with cool := 10 }) (u := .int .i64 10) (fun s => set_cool { g with shots := g.shots ++ [⟨k, (g.ship k).x, (g.ship k).y, AX, AY, 24⟩] } s k (g.ship k) hk 10))
  have HK3 := Lib.hid K3
  obtain ⟨G3, hG3⟩ : ∃ G : Gm.G, G = { g with shots := g.shots ++ [(⟨k, (g.ship k).x, (g.ship k).y, AX, AY, 24⟩ : Gm.Shot)] } := ⟨_, rfl⟩
  rw [← hG3] at H3
  clear hG3
  obtain ⟨A3, c3, hB3, hO3⟩ := H3
  have k3 := hB3.cell
  have f3 := hB3.free
  have z5 := Gm.cells_ship G3 (.slice A3 G3.shots.length c3) k 5 hk (by omega)
  simp only [Gm.Ship.cells, List.getElem?_cons_zero, List.getElem?_cons_succ] at z5
  clear hB3 hO3 K3 hW2 k2 f2 hrun ne2 s1 s2 s5 e58
  go_wp2
  go_end0
  exact ⟨⟨_, rfl⟩, by first | exact R3.out | (rw [hAX, hAY]; exact R3.out), HK3.out.put _ _⟩
theorem shoot_any (g : Gm.G) (b B k : Nat) (x y p : Int) (w : World) (hbB : b ≤ B) (hk : k < 8) (h : Has b B g w) (hc : 0 ≤ (g.ship k).cool ∧ (g.ship k).cool ≤ 10) (wx : -128 ≤ x ∧ x ≤ 127) (wy : -128 ≤ y ∧ y ≤ 127) (wp : 0 ≤ p ∧ p ≤ 255) :
    Calls Tryz.prog 102 #[.pointer (some ⟨B, 0, none⟩), .int .i64 k, .agg #[.int .i8 x, .int .i8 y, .int .u8 p]] w fun e w' => (∃ v, e = .returned v) ∧ Has b B (shotG g k x y p) w' ∧ Keep b B w w' := by
  unfold shotG
  by_cases h0 : 0 < (g.ship k).cool
  · rw [if_pos h0]; exact shoot_cool g b B k x y p w hbB hk h ⟨h0, hc.2⟩
  · rw [if_neg h0]
    by_cases hp : p % 2 = 1 ∧ g.shots.length < 32
    · rw [if_pos hp]; exact shoot_yes g b B k x y p w hbB hk h (by omega) wx wy wp hp.1 hp.2
    · rw [if_neg hp]; exact shoot_rest g b B k x y p w hbB hk h (by omega) wp hp
end Go.Proofs.YtkkhdaeihnbilaaGreat
namespace Go.Proofs.YtkkhdaeihnbilaaGreat
open Go.RowKit Go.Shelf
set_option linter.unusedVariables false
attribute [local go_sem] Oper.semAt_some
/-- A slot whose ship flies. -/
abbrev Slot (on : Nat → Bool) := { k : Nat // k < 8 ∧ on k = true }
def flies (on : Nat → Bool) : Nat → Nat → List (Slot on)
  | 0, _ => []
  | n + 1, i => if h : i < 8 ∧ on i = true then ⟨i, h⟩ :: flies on n (i + 1) else flies on n (i + 1)
theorem flies_len (on : Nat → Bool) : ∀ n i, (flies on n i).length ≤ n
  | 0, _ => Nat.le_refl _
  | n + 1, i => by
    unfold flies
    split
    · have := flies_len on n (i + 1); simp; omega
    · have := flies_len on n (i + 1); omega
theorem flies_yes {on : Nat → Bool} {n i : Nat} (h : i < 8) (ho : on i = true) : flies on (n + 1) i = ⟨i, h, ho⟩ :: flies on n (i + 1) := by
  show (if _ : _ then _ else _) = _; rw [dif_pos ⟨h, ho⟩]
theorem flies_no {on : Nat → Bool} {n i : Nat} (ho : on i = false) : flies on (n + 1) i = flies on n (i + 1) := by
  show (if _ : _ then _ else _) = _; rw [dif_neg (by simp [ho])]

abbrev slotEnc (B : Nat) (on : Nat → Bool) (x : Slot on) : Array Value := #[.int .i64 x.1, .pointer (some ⟨B, 2 + x.1 * 7, none⟩)]
/-- What the going over reads between two rounds: where the game lies, and who flies. -/
def Flying (B Bg : Nat) (on : Nat → Bool) (W : World) : Prop := W.cell? ⟨Bg, 0, none⟩ = some (.pointer (some ⟨B, 0, none⟩)) ∧ ∀ k, k < 8 → W.cell? ⟨B, 2 + k * 7, none⟩ = some (.bool (on k))
theorem Flying.below {B Bg : Nat} {on : Nat → Bool} {w W : World} (h : Flying B Bg on w) (hb : Below w.heap.size w W) : Flying B Bg on W :=
  ⟨(World.cell?_of_block (hb.block _ (World.block_lt_of_cell? w _ h.1))).trans h.1, fun k hk => (World.cell?_of_block (hb.block _ (World.block_lt_of_cell? w _ (h.2 k hk)))).trans (h.2 k hk)⟩
def FlyKp (B Bg : Nat) (on : Nat → Bool) (W W' : World) : Prop := Flying B Bg on W → Flying B Bg on W'
theorem flykp_t {B Bg : Nat} {on : Nat → Bool} {X Y Z : World} (h : FlyKp B Bg on X Y) (k : FlyKp B Bg on Y Z) : FlyKp B Bg on X Z := fun hx => k (h hx)
theorem flykp_b {B Bg : Nat} {on : Nat → Bool} {n : Nat} (W : World) (l : Nat) (o o' : Obj) (_ : n ≤ l) (h : W.heap[l]? = some o) (hc : o.isCells = false) (_ : o.isWalk = false) : FlyKp B Bg on W (W.putObj l o') := fun hf =>
  ⟨cell_kept hf.1 (grownBy_putObj' W l o') (fun r e => by cases e; exact ⟨_, h, hc⟩), fun k hk => cell_kept (hf.2 k hk) (grownBy_putObj' W l o') (fun r e => by cases e; exact ⟨_, h, hc⟩)⟩

set_option maxRecDepth 100000 in
set_option maxHeartbeats 4000000 in
theorem flying1_in (on : Nat → Bool) (B Bg : Nat) (n l : Nat) (J Jx : List (Slot on) → World → Prop)
    (hY : ∀ pre x W, J pre W → pre.length < 8 → YieldAt Fence.wide (n - 1) Tryz.prog l (slotEnc B on x) W fun e W' =>
      (e = .returned (.bool true) ∧ J (pre ++ [x]) W' ∧ FlyKp B Bg on W W') ∨ (e = .returned (.bool false) ∧ Jx (pre ++ [x]) W'))
    (W : World) (hF : Flying B Bg on W) (h0 : J [] W) :
    CallsIn Fence.wide n Tryz.prog 127 #[.func (.yield l) #[] #[], .pointer (some ⟨Bg, 0, none⟩)] W fun e W' => (∃ v, e = .returned v) ∧
      ((∃ ys, ys = flies on 8 0 ∧ J ys W') ∨ (∃ pre, (∃ rest, flies on 8 0 = pre ++ rest) ∧ Jx pre W')) := by
  refine callsIn_of_wp Tryz.func127 rfl trivial ?_ rfl
  simp only [Tryz.ntmps127, List.size_toArray, List.length_cons, List.length_nil, Nat.reduceAdd, Nat.reduceSub, Array.replicate_succ, Array.replicate_zero, List.push_toArray, List.append_toArray, List.nil_append, List.cons_append]
  gi_wp2
  gi_loopw [5] (fun p wr => ∃ (i : Nat) (pre : List (Slot on)), i ≤ 8 ∧ p = .int .i64 i ∧ flies on 8 0 = pre ++ flies on (8 - i) i ∧ Flying B Bg on wr ∧ J pre wr)
    (fun p _ => 8 - (intOf p).toNat)
  case atStart =>
    exact ⟨0, [], by omega, rfl, rfl, hF, h0⟩
  case round =>
    obtain ⟨i, pre, hi, rfl, hx, hf, hJs⟩ := hrel
    by_cases hlt : i < 8
    · have hi8 : (i : Int) < 8 := by omega
      have f0 := hf.1
      have f1 := hf.2 i hlt
      cases ho : on i
      · rw [ho] at f1
        rw [show 8 - i = (8 - (i + 1)) + 1 by omega, flies_no ho] at hx
        have HX := Lib.hid hx
        have HF := Lib.hid hf
        have HJ := Lib.hid hJs
        clear hx hf hJs hY
        gi_wp2
        refine ⟨fun _ h => (by cases h), ?_⟩
        gi_wp2
        go_roundw
        case rel => exact ⟨i + 1, pre, by omega, by go_num, HX.out, HF.out, HJ.out⟩
        case measure => simp [intOf]; omega
      · rw [ho] at f1
        rw [show 8 - i = (8 - (i + 1)) + 1 by omega, flies_yes hlt ho] at hx
        have hlen : pre.length < 8 := by
          have := flies_len on 8 0; rw [hx] at this; simp at this; omega
        obtain ⟨fn, tmps, assign, body, hy, hR⟩ := hY pre ⟨i, hlt, ho⟩ wr hJs hlen
        dsimp only [slotEnc] at hy
        have HX := Lib.hid hx
        have HF := Lib.hid hf
        clear hx hf hJs hY
        gi_wp2
        refine ⟨fun h => (by cases h), hR.mono ?_⟩
        rintro e W3 (⟨rfl, hJ3, hk3⟩ | ⟨rfl, hJx3⟩)
        · gi_wp2
          go_roundw
          case rel => exact ⟨i + 1, pre ++ [⟨i, hlt, ho⟩], by omega, by go_num, by rw [HX.out]; simp, hk3 HF.out, hJ3⟩
          case measure => simp [intOf]; omega
        · gi_wp2
          refine bodyPost_ret (results_none rfl _ _ _) rfl ?_
          exact ⟨⟨_, rfl⟩, .inr ⟨pre ++ [⟨i, hlt, ho⟩], ⟨flies on (8 - (i + 1)) (i + 1), by rw [HX.out]; simp⟩, hJx3⟩⟩
    · have hi8 : ¬ (i : Int) < 8 := by omega
      have hie : i = 8 := by omega
      subst hie
      have HX := Lib.hid (show flies on 8 0 = pre by rw [hx]; simp [flies])
      clear hx
      gi_wp2
      go_end0
      have e := HX.out
      first
        | exact ⟨⟨_, rfl⟩, .inl ⟨pre, e.symm, hJs⟩⟩
        | exact ⟨⟨_, rfl⟩, .inl (by rw [e]; exact hJs)⟩

theorem flying1_stops (on : Nat → Bool) (B Bg : Nat) (n : Nat) (w : World) (hF : Flying B Bg on w) :
    SeqStopsK Fence.wide n Tryz.prog 127 #[.pointer (some ⟨Bg, 0, none⟩)] (slotEnc B on) (FlyKp B Bg on) (fun xs => xs = flies on 8 0) (fun pre => ∃ rest, flies on 8 0 = pre ++ rest) 8 w :=
  fun l J Jx W hW _ _ hY h0 => flying1_in on B Bg n l J Jx hY W (hF.below hW) h0

/-- The going over is made. -/
theorem flying_any (B : Nat) (w : World) :
    Calls Tryz.prog 99 #[.pointer (some ⟨B, 0, none⟩)] w fun e w' => e = .returned (.func (.func 127) #[] #[.pointer (some ⟨w.heap.size, 0, none⟩)]) ∧ w' = w.alloc (.cells #[.pointer (some ⟨B, 0, none⟩)] 132) := by
  have hmf : ∀ (fn : Fn) (first cap : Array Value) (w : World), (Instr.makeFunc fn first cap).run Tryz.prog w = .ok (.func fn first cap) w := fun _ _ _ _ => rfl
  go_enter Tryz.func99, Tryz.ntmps99
  go_wp2
  go_ret
  exact ⟨rfl, rfl⟩
end Go.Proofs.YtkkhdaeihnbilaaGreat
