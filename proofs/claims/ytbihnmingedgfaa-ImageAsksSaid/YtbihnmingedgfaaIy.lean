/-
A flight, read.
-/
import Derived.Test.YtbihnmingedgfaaIo
namespace Go.Proofs.Ytbihnmingedgfaa
open Go.RowKit Go.Shelf
set_option linter.unusedVariables false
set_option linter.unusedSimpArgs false

set_option maxRecDepth 100000 in
set_option maxHeartbeats 1000000 in
theorem layi32_r (x x0 : Int) (hx : -2147483648 ≤ x ∧ x ≤ 2147483647) (P o : Nat) (t : TypeId) (cs : Array Value) (rest : List Int) (b Bb Bp : Nat) (w : World) (hbB : b ≤ Bb) (hbP : b ≤ P) (hbw : b ≤ w.heap.size) (h : Rd b Bb Bp (Im.bytesOf 4 (IntKind.u64.wrap x) ++ rest) w) (hP : Box w P t cs) (ho : cs[o]? = some (.int .i32 x0)) (h1 : t ≠ 54) (h2 : t ≠ 5) (h3 : t ≠ 120) :
    Calls Try.prog 161 #[.func (.func 130) #[] #[.pointer (some ⟨Bp, 0, none⟩)], .int .i64 4, .pointer (some ⟨P, o, none⟩)] w fun e w' => e = .returned (.tuple #[]) ∧ Rd b Bb Bp rest w' ∧ Rk b Bb P w w' ∧ Box w' P t (cs.setIfInBounds o (.int .i32 x)) := by
  have cr := fun v0 => Lib.hid (read_num 4 4 rfl v0 (IntKind.u64.wrap x) rest b Bb Bp w (by decide) hbB h)
  obtain ⟨y, hy⟩ : ∃ y, y = IntKind.u64.wrap x % 2 ^ (8 * 4) := ⟨_, rfl⟩
  have hwb : IntKind.i32.wrap y = x := by rw [hy, IntKind.wrap_u64, IntKind.wrap_i32]; omega
  rw [← hy] at cr
  have HH := Lib.hid h.isvar
  have HP := Lib.hid hP
  have k0 := hP.cell o
  rw [ho] at k0
  have HO := Lib.hid ho
  have HB := Lib.hid hbP
  clear h hP ho hy
  go_enter Try.func161, Try.ntmps161
  go_wp2_with (go_at_call 130; ((with_reducible refine ((cr _).out).mono ?_); rintro e w1 ⟨rfl, hI1, hK1⟩; have P1 := Lib.hid (HP.out.wrote' hK1 HH.out h1 h2); have I1 := Lib.hid hI1; have K1 := Lib.hid hK1; have k1 := P1.out.cell o; rw [HO.out] at k1; have f1 := P1.out.free o; clear hI1 hK1 k0))
  go_end0
  exact ⟨rfl, I1.out.off (p := ⟨P, o, none⟩) P1.out h3 h1 HB.out _, ⟨(K1.out.to hbw).setCell HB.out _, ((Kb.refl (B := P) w).wrote K1.out HH.out).put o _⟩, P1.out.put o _⟩

/-- The bytes of a flight from a part on. -/
def Im.flightFrom (x : Nat → Int) : Nat → Nat → List Int
  | _, 0 => []
  | k, n + 1 => Im.bytesOf 4 (IntKind.u64.wrap (x k)) ++ Im.flightFrom x (k + 1) n
theorem Im.flight_from (x : Nat → Int) : ∀ (n k : Nat), Im.flight x k ++ Im.flightFrom x k n = Im.flight x (k + n)
  | 0, k => by simp [Im.flightFrom]
  | n + 1, k => by
    show Im.flight x k ++ (Im.bytesOf 4 (IntKind.u64.wrap (x k)) ++ Im.flightFrom x (k + 1) n) = _
    rw [← List.append_assoc]
    have := Im.flight_from x n (k + 1)
    rw [show k + 1 + n = k + (n + 1) by omega] at this
    exact this
def Im.parts (x : Nat → Int) : Nat → List Value
  | 0 => []
  | k + 1 => Im.parts x k ++ [.int .i32 (x k)]
theorem Im.parts_len (x : Nat → Int) : ∀ k, (Im.parts x k).length = k
  | 0 => rfl
  | k + 1 => by show (Im.parts x k ++ _).length = _; rw [List.length_append, Im.parts_len x k]; rfl

set_option maxRecDepth 100000 in
set_option maxHeartbeats 2000000 in
theorem layflight_r (x : Nat → Int) (P o Bq : Nat) (t : TypeId) (cs : Array Value) (rest : List Int) (b Bb Bp : Nat) (w : World) (hx : ∀ k, k < 4 → -2147483648 ≤ x k ∧ x k ≤ 2147483647) (hbB : b ≤ Bb) (hbP : b ≤ P) (hbw : b ≤ w.heap.size) (h : Rd b Bb Bp (Im.flight x 4 ++ rest) w) (hP : Box w P t cs) (ho : ∀ k, k < 4 → cs[o + k]? = some (.int .i32 0)) (h1 : t ≠ 54) (h2 : t ≠ 5) (h3 : t ≠ 120) (hPq : Bq ≠ P)
    (hq : Box w Bq 180 #[.pointer (some ⟨P, o + 0, none⟩), .pointer (some ⟨P, o + 1, none⟩), .pointer (some ⟨P, o + 2, none⟩), .pointer (some ⟨P, o + 3, none⟩)]) (c : Nat) :
    Calls Try.prog 153 #[.func (.func 130) #[] #[.pointer (some ⟨Bp, 0, none⟩)], .slice (some ⟨Bq, 0, none⟩) 4 c] w fun e w' => e = .returned (.tuple #[]) ∧ Rd b Bb Bp rest w' ∧ Rk b Bb P w w' ∧ ∃ cs', Box w' P t cs' ∧ Im.Patch cs o (Im.parts x 4) cs' := by
  have e4 := Im.flight_from x 4 0
  rw [show 0 + 4 = 4 from rfl] at e4
  rw [← e4] at h
  have HH := Lib.hid (show Rd b Bb Bp (Im.flightFrom x 0 4 ++ rest) w from h)
  have HP := Lib.hid hP
  have HQ := Lib.hid hq
  have HW := Lib.hid hbw
  clear h hP hq e4 hbw
  go_enter Try.func153, Try.ntmps153
  go_wp2
  go_loopw [8] (fun i wr => ∃ k : Nat, k ≤ 4 ∧ i = .int .i64 k ∧ Rd b Bb Bp (Im.flightFrom x k (4 - k) ++ rest) wr ∧ Rk b Bb P w wr ∧ ∃ cs', Box wr P t cs' ∧ Im.Patch cs o (Im.parts x k) cs') (fun i _ => 4 - (intOf i).toNat)
  case atStart => exact ⟨0, by omega, rfl, HH.out, Rk.refl _ _ _ _, cs, HP.out, Im.Patch.nil _ _⟩
  case round =>
    obtain ⟨k, hk, rfl, hI, hK, cs', hB, hpt⟩ := hrel
    by_cases hlt : k < 4
    · have hk8 : (k : Int) < 4 := by omega
      have Q1 := hK.kb _ _ _ HQ.out hPq (by decide) (by decide)
      have qc := Q1.cell k
      have hqk : (#[.pointer (some ⟨P, o + 0, none⟩), .pointer (some ⟨P, o + 1, none⟩), .pointer (some ⟨P, o + 2, none⟩), .pointer (some ⟨P, o + 3, none⟩)] : Array Value)[k]? = some (.pointer (some ⟨P, o + k, none⟩)) := by
        match k, hlt with
        | 0, _ | 1, _ | 2, _ | 3, _ => rfl
      rw [hqk] at qc
      rw [show 4 - k = (4 - (k + 1)) + 1 by omega] at hI
      have eI : Im.flightFrom x k (4 - (k + 1) + 1) ++ rest = Im.bytesOf 4 (IntKind.u64.wrap (x k)) ++ (Im.flightFrom x (k + 1) (4 - (k + 1)) ++ rest) := by
        show (Im.bytesOf 4 (IntKind.u64.wrap (x k)) ++ Im.flightFrom x (k + 1) (4 - (k + 1))) ++ rest = _
        rw [List.append_assoc]
      rw [eI] at hI
      have hc0 : cs'[o + k]? = some (.int .i32 0) := (hpt.cell (.inr (by rw [Im.parts_len]; omega))).trans (ho k hlt)
      have cl := Lib.hid (layi32_r (x k) 0 (hx k hlt) P (o + k) t cs' _ b Bb Bp wr hbB hbP (Nat.le_trans HW.out hK.below.size) hI hB hc0 h1 h2 h3)
      have HPT := Lib.hid (hpt.trans (Im.Patch.one (.int .i32 (x k)) hc0) (by rw [Im.parts_len]))
      have HK := Lib.hid hK
      clear hI hK hB Q1 hqk hpt hc0 eI
      go_wp2_with (go_at_call 161; ((with_reducible refine (cl.out).mono ?_); rintro e w1 ⟨rfl, hI1, hK1, hB1⟩; have I1 := Lib.hid hI1; have K1 := Lib.hid (HK.out.trans hK1); have B1 := Lib.hid hB1; clear hI1 hK1 hB1 qc))
      go_roundw
      case rel => exact ⟨k + 1, by omega, by go_num, I1.out, K1.out, _, B1.out, HPT.out⟩
      case measure => simp [intOf]; omega
    · have hk8 : ¬ (k : Int) < 4 := by omega
      obtain rfl : k = 4 := by omega
      have HI := Lib.hid hI
      have HK := Lib.hid hK
      have HB := Lib.hid hB
      have HPT := Lib.hid hpt
      clear hI hK hB hpt
      go_wp2
      go_end0
      exact ⟨rfl, HI.out, HK.out, cs', HB.out, HPT.out⟩
end Go.Proofs.Ytbihnmingedgfaa
