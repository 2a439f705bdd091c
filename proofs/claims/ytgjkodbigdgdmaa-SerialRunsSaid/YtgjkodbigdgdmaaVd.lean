/-
The document's Heard: Note, whatever comes; Last.
-/
import Derived.Test.YtgjkodbigdgdmaaVc
namespace Sr
theorem bitN_none {k : Int} (h : ¬ (1 ≤ k ∧ k ≤ 32)) : bitN k = 0 := by
  unfold bitN
  split
  · rfl
  · split
    · omega
    · rfl
theorem bitN_some {k : Int} (h : 1 ≤ k ∧ k ≤ 32) : bitN k ≠ 0 := by
  unfold bitN
  rw [if_neg (by omega), if_pos h.2]
  exact Nat.pos_iff_ne_zero.1 (Nat.pow_pos (by decide))
theorem low_next (n j : Nat) : n % 2 ^ (j + 1) = if n.testBit j = true then n % 2 ^ j ||| 2 ^ j else n % 2 ^ j := by
  apply Nat.eq_of_testBit_eq
  intro i
  by_cases h : n.testBit j = true
  · rw [if_pos h, Nat.testBit_or, Nat.testBit_mod_two_pow, Nat.testBit_mod_two_pow, Nat.testBit_two_pow]
    by_cases e : i = j
    · subst e; simp [h]
    · have e' : ¬ j = i := fun x => e x.symm
      rw [decide_eq_false e', Bool.or_false]
      congr 1
      rw [Bool.eq_iff_iff, decide_eq_true_iff, decide_eq_true_iff]; omega
  · rw [if_neg h, Nat.testBit_mod_two_pow, Nat.testBit_mod_two_pow]
    by_cases e : i = j
    · subst e; simp [h]
    · congr 1
      rw [Bool.eq_iff_iff, decide_eq_true_iff, decide_eq_true_iff]; omega
end Sr
namespace Go.Proofs.Ytgjkodbigdgdmaa
open Go.RowKit
set_option linter.unusedVariables false

theorem refnote_any (h : Sr.H) (ho : h.Ok) (s : Int) (hs : 0 ≤ s ∧ s ≤ 65535) (B : Nat) (w : World) (hB : Box w B 35 h.rcells) :
    Calls Try.prog 17 #[.pointer (some ⟨B, 0, none⟩), .int .u16 s] w fun e w' => e = .returned (.bool (Sr.fresh h s)) ∧ Box w' B 35 (Sr.note h s).rcells ∧ Only B w w' := by
  obtain ⟨so, la, se⟩ := h
  have ha : 0 ≤ la ∧ la ≤ 65535 := ho.last
  cases so
  · obtain ⟨e1, e2⟩ := Sr.note_first (h := ⟨false, la, se⟩) rfl s
    rw [e1, e2]
    have h1 := rnote_one la s (Sr.came ⟨false, la, se⟩) B w hB
    rw [Sr.rc_congr (so := true) (la := s) (fun i hi => (Sr.came_first s se ⟨false, la, se⟩ rfl i hi).symm)] at h1
    exact h1
  · by_cases hd : 0 < Sr.way la s
    · obtain ⟨e1, e2⟩ := Sr.note_ahead (h := ⟨true, la, se⟩) rfl hd
      rw [e1, e2]
      have h1 := rnote_on la s (Sr.came ⟨true, la, se⟩) ha hs (Sr.way la s).toNat (by omega) (by omega) rfl B w hB
      rw [Sr.rc_congr (so := true) (la := s) (fun i hi => (Sr.came_up (h := ⟨true, la, se⟩) rfl s (Sr.way la s) hd i hi).symm)] at h1
      exact h1
    · have hw := Sr.way_back la s
      have hwb := Sr.way_bd la s
      by_cases hf : Sr.way la s < -32
      · obtain ⟨e1, e2⟩ := Sr.note_old (h := ⟨true, la, se⟩) rfl hd (.inl (Sr.bitN_none (by dsimp only; omega)))
        rw [e1, e2]
        exact rnote_far la s _ ha hs hf B w hB
      · obtain ⟨k, hk⟩ : ∃ k : Nat, Sr.way la s = -(k : Int) := ⟨(-Sr.way la s).toNat, by omega⟩
        have hks : Sr.way s la = (k : Int) := by omega
        have hk32 : k ≤ 32 := by omega
        cases hc : Sr.came ⟨true, la, se⟩ k
        · have hk1 : 1 ≤ k := by
            cases k with
            | zero => cases hc
            | succ k => omega
          have hch := Sr.came_has ⟨true, la, se⟩ (k : Int) (by omega)
          rw [Int.toNat_natCast, hc] at hch
          obtain ⟨e1, e2⟩ := Sr.note_behind (h := ⟨true, la, se⟩) (s := s) rfl hd (by rw [hks]; exact Sr.bitN_some (by omega)) (by rw [hks]; exact hch.symm)
          rw [e1, e2]
          have h1 := rnote_late la s (Sr.came ⟨true, la, se⟩) ha hs k hk hk32 hc B w hB
          rw [Sr.rc_congr (so := true) (la := la) (fun i hi => (show (if i = k then true else Sr.came ⟨true, la, se⟩ i) = Sr.came ⟨true, la, se ||| Sr.bitN (Sr.way s la)⟩ i from by
            rw [hks]; exact (Sr.came_late (h := ⟨true, la, se⟩) rfl (k : Int) (by omega) i).symm))] at h1
          exact h1
        · obtain ⟨e1, e2⟩ := Sr.note_old (h := ⟨true, la, se⟩) (s := s) rfl hd (by
            by_cases hk1 : 1 ≤ k
            · right
              have hch := Sr.came_has ⟨true, la, se⟩ (k : Int) (by omega)
              rw [Int.toNat_natCast, hc] at hch
              rw [hks]; exact hch.symm
            · left
              rw [hks]; exact Sr.bitN_none (by omega))
          rw [e1, e2]
          exact rnote_came la s _ ha hs k hk hk32 hc B w hB

theorem shift_one (j : Nat) (hj : j < 32) : Op.shift .shl .u32 1 .u64 (j : Int) = pure (.int .u32 ((2 ^ j : Nat) : Int)) := by
  unfold Op.shift
  rw [if_neg (by omega)]
  simp only [IntKind.bits]
  refine congrArg (fun z => pure (Value.int .u32 z)) ?_
  rw [IntKind.wrap_u32', Int.one_mul, show min (j : Int).toNat 32 = j by omega]
  have h1 : (2 : Nat) ^ j < 2 ^ 32 := Nat.pow_lt_pow_of_lt (by decide) hj
  have h2 : ((2 : Int) ^ j) = ((2 ^ j : Nat) : Int) := by push_cast; rfl
  rw [h2]
  generalize 2 ^ j = x at *
  omega

theorem pow_lt32 (j : Nat) (hj : j < 32) : (2 : Int) ^ j % 4294967296 = ((2 ^ j : Nat) : Int) := by
  have h1 : (2 : Nat) ^ j < 2 ^ 32 := Nat.pow_lt_pow_of_lt (by decide) hj
  have h2 : ((2 : Int) ^ j) = ((2 ^ j : Nat) : Int) := by push_cast; rfl
  rw [h2]
  generalize 2 ^ j = x at *
  omega
set_option maxHeartbeats 1000000 in
theorem reflast_any (h : Sr.H) (ho : h.Ok) (B : Nat) (w : World) (hB : Box w B 35 h.rcells) :
    Calls Try.prog 19 #[.pointer (some ⟨B, 0, none⟩)] w fun e w' => e = .returned (.tuple #[.int .u16 h.last, .int .u32 (h.seen : Nat)]) ∧ w = w' := by
  have q1 : w.cell? ⟨B, 1, none⟩ = some (.int .u16 h.last) := hB.cell 1
  have hq := Lib.hid (fun (i : Nat) (hi : i < 33) => (hB.cell (2 + i)).trans (Sr.rc_at h.some h.last (Sr.came h) i hi))
  have hse := ho.seen
  obtain ⟨so, la, se⟩ := h
  dsimp only at q1 hse ⊢
  clear hB ho
  go_enter Try.func19, Try.ntmps19
  go_wp2
  go_loop [4, 5] (fun b i => ∃ j : Nat, j ≤ 32 ∧ i = .int .i64 ((j + 1 : Nat) : Int) ∧ b = .int .u32 ((se % 2 ^ j : Nat) : Int)) (fun _ i => 33 - (intOf i).toNat)
  case atStart => exact ⟨0, Nat.zero_le _, rfl, by rw [Nat.pow_zero, Nat.mod_one]; rfl⟩
  case round =>
    obtain ⟨j, hj, rfl, rfl⟩ := hrel
    by_cases hlt : j < 32
    · have hn := Sr.low_next se j
      have q2 : w.cell? ⟨B, 2 + (j + 1), none⟩ = some (.bool (se.testBit j)) := hq.out (j + 1) (by omega)
      have hjl : ((j + 1 : Nat) : Int) < 33 := by omega
      have hsub : ((j + 1 : Nat) : Int) - 1 = (j : Int) := by omega
      have hsh := shift_one j hlt
      have hor := u32_or_nat (se % 2 ^ j) (2 ^ j) (Nat.lt_of_le_of_lt (Nat.mod_le _ _) hse) (by have : (2 : Nat) ^ j < 2 ^ 32 := Nat.pow_lt_pow_of_lt (by decide) hlt; omega)
      cases hb : se.testBit j
      · rw [hb] at hn q2
        have HN := Lib.hid hn
        clear hn hor hsh
        go_wp2
        go_round
        case rel => exact ⟨j + 1, by omega, by go_num, by rw [HN.out]; rfl⟩
        case measure => simp [intOf]; omega
      · rw [hb] at hn q2
        have HN := Lib.hid hn
        have HR := Lib.hid hor
        have E1 := Lib.hid (show (se : Int) % 2 ^ j = ((se % 2 ^ j : Nat) : Int) by rw [Int.natCast_emod, Int.natCast_pow]; rfl)
        have E2 := Lib.hid (pow_lt32 j hlt)
        clear hn hor
        go_wp2
        go_round
        case rel => exact ⟨j + 1, by omega, by go_num, by rw [HN.out, if_pos rfl, E1.out, E2.out, HR.out]⟩
        case measure => simp [intOf]; omega
    · obtain rfl : j = 32 := by omega
      have hmod : se % 2 ^ 32 = se := Nat.mod_eq_of_lt hse
      rw [hmod]
      go_wp2
      go_ret2
      exact ⟨rfl, rfl⟩
end Go.Proofs.Ytgjkodbigdgdmaa
