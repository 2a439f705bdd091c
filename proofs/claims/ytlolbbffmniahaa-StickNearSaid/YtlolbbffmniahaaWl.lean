import Derived.Test.YtlolbbffmniahaaWk
namespace Go.Proofs.Ytlolbbffmniahaa
open Go.RowKit

/-- May an input be? Are two near? -/
def may (x y : Int) : Bool := decide (-127 ≤ x) && decide (-127 ≤ y)
def bes (x y : Int) : Bool := decide (-8 ≤ x - y) && decide (x - y ≤ 8)
def near (x y b x' y' b' : Int) : Bool := b == b' && bes x x' && bes y y'

theorem bcell {W w1 : World} (hb : Below W.heap.size W w1) : (∀ b o, b < W.heap.size → w1.cell? ⟨b, o, none⟩ = W.cell? ⟨b, o, none⟩) ∧ (∀ b o, b < W.heap.size → w1.frozen? ⟨b, o, none⟩ = W.frozen? ⟨b, o, none⟩) :=
  ⟨fun b o h => hb.cell (p := ⟨b, o, none⟩) h, fun b o h => hb.frozen (p := ⟨b, o, none⟩) h⟩

set_option maxHeartbeats 400000 in
theorem may_any (x y b : Int) (w : World) :
    Calls Try.prog 17 #[.agg #[.int .i8 x, .int .i8 y, .int .u8 b]] w fun e w' => e = .returned (.bool (may x y)) ∧ Below w.heap.size w w' := by
  have hfin : ∀ t1 t2 : Bool, decide (-127 ≤ x) = t1 → decide (-127 ≤ y) = t2 → may x y = (t1 && t2) := by rintro _ _ rfl rfl; rfl
  by_cases h1 : -127 ≤ x
  · by_cases h2 : -127 ≤ y
    · have H := Lib.hid (hfin true true (by simpa using h1) (by simpa using h2)); clear hfin
      go_enter Try.func17, Try.ntmps17
      go_wp2
      go_ret
      exact ⟨by rw [H.out]; rfl, (Below.refl _ _).alloc (Nat.le_refl _) _⟩
    · have H := Lib.hid (hfin true false (by simpa using h1) (by simpa using h2)); clear hfin
      have h2' : decide (-127 ≤ y) = false := by simpa using h2
      go_enter Try.func17, Try.ntmps17
      go_wp2
      go_ret
      exact ⟨by rw [H.out]; simp, (Below.refl _ _).alloc (Nat.le_refl _) _⟩
  · have H := Lib.hid (hfin false _ (by simpa using h1) rfl); clear hfin
    have h1' : decide (-127 ≤ x) = false := by simpa using h1
    go_enter Try.func17, Try.ntmps17
    go_wp2
    go_ret
    exact ⟨by rw [H.out]; simp, (Below.refl _ _).alloc (Nat.le_refl _) _⟩

set_option maxHeartbeats 400000 in
theorem mayin_any (x y b : Int) (wx : -128 ≤ x ∧ x ≤ 127) (wy : -128 ≤ y ∧ y ≤ 127) (w : World) :
    Calls Try.prog 18 #[.agg #[.int .i8 x, .int .i8 y, .int .u8 b]] w fun e w' => e = .returned (.bool (may x y)) ∧ Below w.heap.size w w' := by
  have hfin : ∀ t1 t2 : Bool, (x != -128) = t1 → (y != -128) = t2 → may x y = (t1 && t2) := by
    rintro _ _ rfl rfl
    unfold may
    rw [Bool.eq_iff_iff]; simp; omega
  by_cases h1 : (x != -128) = true
  · by_cases h2 : (y != -128) = true
    · have H := Lib.hid (hfin true true h1 h2); clear hfin
      go_enter Try.func18, Try.ntmps18
      go_wp2
      go_ret
      exact ⟨by rw [H.out]; rfl, (Below.refl _ _).alloc (Nat.le_refl _) _⟩
    · have h2' : (y != -128) = false := by simpa using h2
      have H := Lib.hid (hfin true false h1 h2'); clear hfin h2
      go_enter Try.func18, Try.ntmps18
      go_wp2
      go_ret
      exact ⟨by rw [H.out]; simp, (Below.refl _ _).alloc (Nat.le_refl _) _⟩
  · have h1' : (x != -128) = false := by simpa using h1
    have H := Lib.hid (hfin false _ h1' rfl); clear hfin h1
    go_enter Try.func18, Try.ntmps18
    go_wp2
    go_ret
    exact ⟨by rw [H.out]; simp, (Below.refl _ _).alloc (Nat.le_refl _) _⟩

set_option maxHeartbeats 400000 in
theorem beside_any (x y : Int) (wx : -128 ≤ x ∧ x ≤ 127) (wy : -128 ≤ y ∧ y ≤ 127) (w : World) :
    Calls Try.prog 29 #[.int .i8 x, .int .i8 y] w fun e w' => e = .returned (.bool (bes x y)) ∧ w = w' := by
  have hfin : ∀ t1 t2 : Bool, decide (-8 ≤ x - y) = t1 → decide (x - y ≤ 8) = t2 → bes x y = (t1 && t2) := by rintro _ _ rfl rfl; rfl
  by_cases h1 : -8 ≤ x - y
  · have H := Lib.hid (hfin true _ (by simpa using h1) rfl); clear hfin
    go_enter Try.func29, Try.ntmps29
    go_wp2
    go_ret
    exact ⟨by rw [H.out]; simp, rfl⟩
  · have H := Lib.hid (hfin false _ (by simpa using h1) rfl); clear hfin
    go_enter Try.func29, Try.ntmps29
    go_wp2
    go_ret
    exact ⟨by rw [H.out]; simp, rfl⟩
end Go.Proofs.Ytlolbbffmniahaa
