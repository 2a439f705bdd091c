/-
Numbers that go round, plainly: the way between two, and which ones came.
-/
import Derived.Test.YtgjkodbigdgdmaaKp
namespace Sr

def way (a b : Int) : Int := if (b - a) % 65536 < 32768 then (b - a) % 65536 else (b - a) % 65536 - 65536
theorem way_bd (a b : Int) : -32768 ≤ way a b ∧ way a b ≤ 32767 := by unfold way; split <;> omega
theorem way_mod (a b : Int) : way a b % 65536 = (b - a) % 65536 := by unfold way; split <;> omega
theorem way_unique {a b k : Int} (h : (b - a) % 65536 = k % 65536) (hk : -32768 ≤ k ∧ k ≤ 32767) : way a b = k := by unfold way; split <;> omega
theorem way_back (a b : Int) : way a b = - way b a ∨ (way a b = -32768 ∧ way b a = -32768) := by unfold way; split <;> split <;> omega

/-- The bit of the one that is k behind. -/
def bitN (k : Int) : Nat := if k ≤ 0 then 0 else if k ≤ 32 then 2 ^ (k - 1).toNat else 0
theorem bitN_lt (k : Int) : bitN k < 4294967296 := by
  unfold bitN
  split
  · decide
  · split
    · have : 2 ^ (k - 1).toNat ≤ 2 ^ 31 := Nat.pow_le_pow_right (by decide) (by omega)
      omega
    · decide
theorem bitN_test (k : Int) (i : Nat) : (bitN k).testBit i = decide (1 ≤ k ∧ k ≤ 32 ∧ k = (i : Int) + 1) := by
  unfold bitN
  split
  · rw [Nat.zero_testBit]; symm; apply decide_eq_false; omega
  · split
    · rw [Nat.testBit_two_pow, Bool.eq_iff_iff, decide_eq_true_iff, decide_eq_true_iff]; omega
    · rw [Nat.zero_testBit]; symm; apply decide_eq_false; omega
/-- Does 'seen' say that the one k behind came? -/
def has (seen : Nat) (k : Int) : Bool := decide (1 ≤ k ∧ k ≤ 32) && seen.testBit (k - 1).toNat
theorem has_and (seen : Nat) (k : Int) : decide (seen &&& bitN k ≠ 0) = has seen k := by
  rw [Bool.eq_iff_iff, decide_eq_true_iff]
  unfold has
  rw [Bool.and_eq_true, decide_eq_true_iff]
  constructor
  · intro h
    obtain ⟨i, hi⟩ : ∃ i, (seen &&& bitN k).testBit i = true := by
      apply Classical.byContradiction
      intro hn
      apply h
      apply Nat.eq_of_testBit_eq
      intro i
      rw [Nat.zero_testBit]
      cases he : (seen &&& bitN k).testBit i
      · rfl
      · exact absurd ⟨i, he⟩ hn
    rw [Nat.testBit_and, Bool.and_eq_true, bitN_test, decide_eq_true_iff] at hi
    refine ⟨⟨hi.2.1, hi.2.2.1⟩, ?_⟩
    rw [show (k - 1).toNat = i by omega]
    exact hi.1
  · rintro ⟨h1, h2⟩ h
    have h3 : (seen &&& bitN k).testBit (k - 1).toNat = true := by
      rw [Nat.testBit_and, h2, bitN_test, Bool.true_and, decide_eq_true_iff]; omega
    rw [h, Nat.zero_testBit] at h3
    cases h3

structure H where
  some : Bool
  last : Int
  seen : Nat
def none : H := ⟨false, 0, 0⟩
structure H.Ok (h : H) : Prop where
  last : 0 ≤ h.last ∧ h.last ≤ 65535
  seen : h.seen < 4294967296
theorem none_ok : none.Ok := ⟨by decide, by decide⟩

/-- What was seen, d further on. -/
def up (seen : Nat) (d : Int) : Nat := (seen * 2 ^ d.toNat) % 4294967296 ||| bitN d
theorem up_lt (seen : Nat) (d : Int) : up seen d < 4294967296 := by
  have h1 : (seen * 2 ^ d.toNat) % 4294967296 < 2 ^ 32 := Nat.mod_lt _ (by decide)
  exact Nat.or_lt_two_pow h1 (bitN_lt d)
theorem up_test (seen : Nat) (d : Int) (hd : 0 < d) (i : Nat) : (up seen d).testBit i = (decide (i < 32) && (decide (d = (i : Int) + 1) || (decide (d ≤ (i : Int)) && seen.testBit (i - d.toNat)))) := by
  unfold up
  rw [Nat.testBit_or, bitN_test, show (4294967296 : Nat) = 2 ^ 32 from rfl, Nat.testBit_mod_two_pow, Nat.testBit_mul_two_pow]
  by_cases h1 : i < 32
  · rw [decide_eq_true h1, Bool.true_and, Bool.true_and, Bool.or_comm]
    congr 1
    · rw [Bool.eq_iff_iff, decide_eq_true_iff, decide_eq_true_iff]; omega
    · congr 1
      rw [Bool.eq_iff_iff, decide_eq_true_iff, decide_eq_true_iff]; omega
  · rw [decide_eq_false h1, Bool.false_and, Bool.false_and, Bool.false_or]
    apply decide_eq_false; omega

/-- Is s new? -/
def fresh (h : H) (s : Int) : Bool := !h.some || decide (0 < way h.last s) || (decide (1 ≤ way s h.last ∧ way s h.last ≤ 32) && !has h.seen (way s h.last))
/-- What is known behind it. -/
def note (h : H) (s : Int) : H :=
  if h.some = false then ⟨true, s, h.seen⟩
  else if 0 < way h.last s then ⟨true, s, up h.seen (way h.last s)⟩
  else ⟨h.some, h.last, h.seen ||| bitN (way s h.last)⟩
theorem note_ok {h : H} (ho : h.Ok) {s : Int} (hs : 0 ≤ s ∧ s ≤ 65535) : (note h s).Ok := by
  unfold note
  split
  · exact ⟨hs, ho.seen⟩
  · split
    · exact ⟨hs, up_lt _ _⟩
    · exact ⟨ho.last, Nat.or_lt_two_pow (n := 32) ho.seen (bitN_lt _)⟩
theorem note_first {h : H} (hf : h.some = false) (s : Int) : fresh h s = true ∧ note h s = ⟨true, s, h.seen⟩ := by
  unfold fresh note; rw [hf]; exact ⟨rfl, rfl⟩
theorem note_ahead {h : H} (hf : h.some = true) {s : Int} (ha : 0 < way h.last s) : fresh h s = true ∧ note h s = ⟨true, s, up h.seen (way h.last s)⟩ := by
  unfold fresh note; rw [hf, decide_eq_true ha]; refine ⟨rfl, ?_⟩
  rw [if_neg (by decide), if_pos ha]
theorem or_same (x : Nat) (k : Int) (h : bitN k = 0 ∨ has x k = true) : x ||| bitN k = x := by
  rcases h with h | h
  · rw [h, Nat.or_zero]
  · unfold has at h
    rw [Bool.and_eq_true, decide_eq_true_iff] at h
    apply Nat.eq_of_testBit_eq
    intro i
    rw [Nat.testBit_or, bitN_test]
    by_cases e : k = (i : Int) + 1
    · rw [show i = (k - 1).toNat by omega, h.2]; rfl
    · rw [decide_eq_false (by omega), Bool.or_false]
/-- Not ahead, and new: it stands behind, and did not come. -/
theorem note_behind {h : H} (hf : h.some = true) {s : Int} (ha : ¬ 0 < way h.last s) (hb : bitN (way s h.last) ≠ 0) (hn : has h.seen (way s h.last) = false) :
    fresh h s = true ∧ note h s = ⟨h.some, h.last, h.seen ||| bitN (way s h.last)⟩ := by
  unfold fresh note
  rw [hf, hn, if_neg (by decide), if_neg ha, decide_eq_false ha]
  refine ⟨?_, rfl⟩
  have : 1 ≤ way s h.last ∧ way s h.last ≤ 32 := by
    unfold bitN at hb
    split at hb
    · exact absurd rfl hb
    · split at hb
      · omega
      · exact absurd rfl hb
  rw [decide_eq_true this]; rfl
theorem note_old {h : H} (hf : h.some = true) {s : Int} (ha : ¬ 0 < way h.last s) (hb : bitN (way s h.last) = 0 ∨ has h.seen (way s h.last) = true) :
    fresh h s = false ∧ note h s = h := by
  unfold fresh note
  rw [if_neg (by rw [hf]; decide), if_neg ha, or_same _ _ hb, decide_eq_false ha, hf]
  refine ⟨?_, ?_⟩
  · rcases hb with hb | hb
    · have : ¬ (1 ≤ way s h.last ∧ way s h.last ≤ 32) := by
        rintro ⟨h1, h2⟩
        unfold bitN at hb
        rw [if_neg (by omega), if_pos h2] at hb
        exact absurd hb (Nat.pos_iff_ne_zero.1 (Nat.pow_pos (by decide)))
      rw [decide_eq_false this]; rfl
    · rw [hb]; simp
  · cases h; simp at hf; subst hf; rfl
/-- Does the other side say that s came? -/
def told (s ack : Int) (seen : Nat) : Bool := decide (s = ack) || has seen (way s ack)
/-- The document's way to it: by the way from the other number. -/
theorem told_ref (a s : Int) (n : Nat) (ha : 0 ≤ a ∧ a ≤ 65535) (hs : 0 ≤ s ∧ s ≤ 65535) : told s a n = (decide (-way a s = 0) || (decide (1 ≤ -way a s ∧ -way a s ≤ 32) && n.testBit (-way a s - 1).toNat)) := by
  unfold told
  have h0 : (s = a) ↔ (-way a s = 0) := by unfold way; split <;> omega
  congr 1
  · rw [Bool.eq_iff_iff, decide_eq_true_iff, decide_eq_true_iff]; exact h0
  · unfold has
    rcases way_back a s with h | h
    · rw [show way s a = -way a s by omega]
    · rw [h.1, h.2]; rfl
end Sr
