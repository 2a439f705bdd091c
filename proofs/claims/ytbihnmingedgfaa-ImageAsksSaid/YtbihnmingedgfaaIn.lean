/-
Numbers that are read; what a reader leaves of a block.
-/
import Derived.Test.YtbihnmingedgfaaIm
namespace Im
open Go
/-- The byte at place k of a number. -/
def byte (v : Int) (k : Nat) : Int := v / 2 ^ (8 * k) % 256
theorem byte_lt (v : Int) (k : Nat) : 0 ≤ byte v k ∧ byte v k ≤ 255 := by unfold byte; omega
theorem bytesOf_at? : ∀ (n : Nat) (v : Int) (k : Nat), k < n → (bytesOf n v)[k]? = some (byte v k)
  | 0, v, k, h => by omega
  | n + 1, v, k, h => by
    show (bytesOf n v ++ [v / 2 ^ (8 * n) % 256])[k]? = _
    by_cases hk : k < n
    · rw [List.getElem?_append_left (by rw [bytesOf_len]; exact hk)]
      exact bytesOf_at? n v k hk
    · obtain rfl : k = n := by omega
      rw [List.getElem?_append_right (by rw [bytesOf_len]; omega)]
      simp [bytesOf_len, byte]
theorem bytesOf_at (n : Nat) (v : Int) (k : Nat) (h : k < (bytesOf n v).length) : (bytesOf n v)[k] = byte v k := by
  have := bytesOf_at? n v k (by rw [bytesOf_len] at h; exact h)
  rw [List.getElem?_eq_getElem h] at this
  injection this
theorem val_byte (v : Int) : ∀ n, val (byte v) n = v % 2 ^ (8 * n)
  | 0 => by simp [val]
  | n + 1 => by
    unfold val
    rw [val_byte v n]
    have hp : (0 : Int) < 2 ^ (8 * n) := Int.pow_pos (by decide)
    have e : (2 : Int) ^ (8 * (n + 1)) = 2 ^ (8 * n) * 256 := by rw [show 8 * (n + 1) = 8 * n + 8 by omega, Int.pow_add]; rfl
    unfold byte
    rw [e]
    generalize (2 : Int) ^ (8 * n) = p at *
    have h3 : v / (p * 256) = v / p / 256 := by rw [Int.ediv_ediv_of_nonneg (by omega)]
    rw [Int.emod_def v (p * 256), h3, Int.emod_def v p]
    have h2 : v / p = 256 * (v / p / 256) + v / p % 256 := (Int.mul_ediv_add_emod (v / p) 256).symm
    generalize v / p / 256 = d at *
    generalize v / p % 256 = r at *
    rw [h2]
    grind
/-- The cells cs' are cs, but for those from o on that are l. -/
def Patch (cs : Array Value) (o : Nat) (l : List Value) (cs' : Array Value) : Prop := ∀ j, cs'[j]? = if o ≤ j ∧ j < o + l.length then l[j - o]? else cs[j]?
theorem Patch.nil (cs : Array Value) (o : Nat) : Patch cs o [] cs := fun j => by rw [if_neg (by simp)]
theorem Patch.one {cs : Array Value} {o : Nat} {u : Value} (v : Value) (h : cs[o]? = some u) : Patch cs o [v] (cs.setIfInBounds o v) := fun j => by
  have ho : o < cs.size := (Array.getElem?_eq_some_iff.1 h).1
  by_cases e : o = j
  · subst e
    simp [ho]
  · rw [if_neg (by simp; omega), Array.getElem?_setIfInBounds_ne e]
theorem Patch.trans {cs cs' cs'' : Array Value} {o p : Nat} {l m : List Value} (h : Patch cs o l cs') (k : Patch cs' p m cs'') (hp : p = o + l.length) : Patch cs o (l ++ m) cs'' := fun j => by
  rw [k j, h j, List.length_append]
  subst hp
  by_cases h1 : o ≤ j ∧ j < o + l.length
  · rw [if_pos h1, if_neg (by omega), if_pos (by omega), List.getElem?_append_left (by omega)]
  · by_cases h2 : o + l.length ≤ j ∧ j < o + l.length + m.length
    · rw [if_pos h2, if_pos (by omega), List.getElem?_append_right (by omega)]
      congr 1; omega
    · rw [if_neg h2, if_neg h1, if_neg (by omega)]
theorem Patch.cell {cs cs' : Array Value} {o : Nat} {l : List Value} (h : Patch cs o l cs') {j : Nat} (hj : j < o ∨ o + l.length ≤ j) : cs'[j]? = cs[j]? := by rw [h j, if_neg (by omega)]
theorem Patch.at {cs cs' : Array Value} {o : Nat} {l : List Value} (h : Patch cs o l cs') (i : Nat) (hi : i < l.length) : cs'[o + i]? = l[i]? := by rw [h (o + i), if_pos (by omega), Nat.add_sub_cancel_left]
/-- What stands there already may be said to be patched, too. -/
theorem Patch.more {cs cs' : Array Value} {o : Nat} {l : List Value} (h : Patch cs o l cs') (m : List Value) (hm : ∀ i, i < m.length → cs[o + l.length + i]? = m[i]?) : Patch cs o (l ++ m) cs' := fun j => by
  rw [h j, List.length_append]
  by_cases h1 : o ≤ j ∧ j < o + l.length
  · rw [if_pos h1, if_pos (by omega), List.getElem?_append_left (by omega)]
  · rw [if_neg h1]
    by_cases h2 : o + l.length ≤ j ∧ j < o + l.length + m.length
    · rw [if_pos (by omega), List.getElem?_append_right (by omega), ← hm _ (by omega)]
      congr 1; omega
    · rw [if_neg (by omega)]
end Im
namespace Go.Proofs.Ytbihnmingedgfaa
open Go.RowKit Go.Shelf
set_option linter.unusedVariables false
set_option linter.unusedSimpArgs false

theorem read_num (size : Nat) (z : Int) (hz : z = size) (v0 v : Int) (rest : List Int) (b Bb Bp : Nat) (w : World) (hs : 1 ≤ size ∧ size ≤ 8) (hbB : b ≤ Bb) (h : Rd b Bb Bp (Im.bytesOf size v ++ rest) w) :
    Calls Try.prog 130 #[.int .i64 z, .int .u64 v0, .pointer (some ⟨Bp, 0, none⟩)] w fun e w' => e = .returned (.int .u64 (v % 2 ^ (8 * size))) ∧ Rd b Bb Bp rest w' ∧ Wrote b Bb w w' := by
  rw [← Im.val_byte]
  exact read_any size z hz v0 (Im.byte v) (Im.bytesOf size v) rest b Bb Bp w hs (Im.bytesOf_len _ _) (fun k hk => Im.bytesOf_at _ _ _ hk) (Im.byte_lt v) hbB h

/-- What a reader does to the world, where it lays what it reads in block P. -/
structure Rk (b Bb P : Nat) (w w' : World) : Prop where
  below : Below b w w'
  kb : Kb P w w'

set_option maxRecDepth 100000 in
set_option maxHeartbeats 1000000 in
theorem layint_r (size : Nat) (z : Int) (hz : z = size) (v y x0 : Int) (hy : v % 2 ^ (8 * size) = y) (hy63 : y ≤ 9223372036854775807) (P o : Nat) (t : TypeId) (cs : Array Value) (rest : List Int) (b Bb Bp : Nat) (w : World) (hs : 1 ≤ size ∧ size ≤ 8) (hbB : b ≤ Bb) (hbP : b ≤ P) (hbw : b ≤ w.heap.size) (h : Rd b Bb Bp (Im.bytesOf size v ++ rest) w) (hP : Box w P t cs) (ho : cs[o]? = some (.int .i64 x0)) (h1 : t ≠ 54) (h2 : t ≠ 5) (h3 : t ≠ 120) :
    Calls Try.prog 124 #[.func (.func 130) #[] #[.pointer (some ⟨Bp, 0, none⟩)], .int .i64 z, .pointer (some ⟨P, o, none⟩)] w fun e w' => e = .returned (.tuple #[]) ∧ Rd b Bb Bp rest w' ∧ Rk b Bb P w w' ∧ Box w' P t (cs.setIfInBounds o (.int .i64 y)) := by
  subst hz
  have y0 : 0 ≤ y := by rw [← hy]; exact Int.emod_nonneg _ (by have : (0 : Int) < 2 ^ (8 * size) := Int.pow_pos (by decide); omega)
  have hwb : IntKind.i64.wrap y = y := by rw [IntKind.wrap_i64]; omega
  have cr := fun v0 => Lib.hid (read_num size size rfl v0 v rest b Bb Bp w hs hbB h)
  rw [hy] at cr
  have HH := Lib.hid h.isvar
  have HP := Lib.hid hP
  have k0 := hP.cell o
  rw [ho] at k0
  have HO := Lib.hid ho
  have HB := Lib.hid hbP
  clear h hP ho hy
  go_enter Try.func124, Try.ntmps124
  go_wp2_with (go_at_call 130; ((with_reducible refine ((cr _).out).mono ?_); rintro e w1 ⟨rfl, hI1, hK1⟩; have P1 := Lib.hid (HP.out.wrote' hK1 HH.out h1 h2); have I1 := Lib.hid hI1; have K1 := Lib.hid hK1; have k1 := P1.out.cell o; rw [HO.out] at k1; have f1 := P1.out.free o; clear hI1 hK1 k0))
  go_end0
  exact ⟨rfl, I1.out.off (p := ⟨P, o, none⟩) P1.out h3 h1 HB.out _, ⟨(K1.out.to hbw).setCell HB.out _, ((Kb.refl (B := P) w).wrote K1.out HH.out).put o _⟩, P1.out.put o _⟩

set_option maxRecDepth 100000 in
set_option maxHeartbeats 1000000 in
theorem layu64_r (size : Nat) (z : Int) (hz : z = size) (v y x0 : Int) (hy : v % 2 ^ (8 * size) = y) (hy63 : y ≤ 18446744073709551615) (P o : Nat) (t : TypeId) (cs : Array Value) (rest : List Int) (b Bb Bp : Nat) (w : World) (hs : 1 ≤ size ∧ size ≤ 8) (hbB : b ≤ Bb) (hbP : b ≤ P) (hbw : b ≤ w.heap.size) (h : Rd b Bb Bp (Im.bytesOf size v ++ rest) w) (hP : Box w P t cs) (ho : cs[o]? = some (.int .u64 x0)) (h1 : t ≠ 54) (h2 : t ≠ 5) (h3 : t ≠ 120) :
    Calls Try.prog 125 #[.func (.func 130) #[] #[.pointer (some ⟨Bp, 0, none⟩)], .int .i64 z, .pointer (some ⟨P, o, none⟩)] w fun e w' => e = .returned (.tuple #[]) ∧ Rd b Bb Bp rest w' ∧ Rk b Bb P w w' ∧ Box w' P t (cs.setIfInBounds o (.int .u64 y)) := by
  subst hz
  have y0 : 0 ≤ y := by rw [← hy]; exact Int.emod_nonneg _ (by have : (0 : Int) < 2 ^ (8 * size) := Int.pow_pos (by decide); omega)
  have hwb : IntKind.u64.wrap y = y := by rw [IntKind.wrap_u64]; omega
  have cr := fun v0 => Lib.hid (read_num size size rfl v0 v rest b Bb Bp w hs hbB h)
  rw [hy] at cr
  have HH := Lib.hid h.isvar
  have HP := Lib.hid hP
  have k0 := hP.cell o
  rw [ho] at k0
  have HO := Lib.hid ho
  have HB := Lib.hid hbP
  clear h hP ho hy
  go_enter Try.func125, Try.ntmps125
  go_wp2_with (go_at_call 130; ((with_reducible refine ((cr _).out).mono ?_); rintro e w1 ⟨rfl, hI1, hK1⟩; have P1 := Lib.hid (HP.out.wrote' hK1 HH.out h1 h2); have I1 := Lib.hid hI1; have K1 := Lib.hid hK1; have k1 := P1.out.cell o; rw [HO.out] at k1; have f1 := P1.out.free o; clear hI1 hK1 k0))
  go_end0
  exact ⟨rfl, I1.out.off (p := ⟨P, o, none⟩) P1.out h3 h1 HB.out _, ⟨(K1.out.to hbw).setCell HB.out _, ((Kb.refl (B := P) w).wrote K1.out HH.out).put o _⟩, P1.out.put o _⟩

section
variable {b Bb P L : Nat} {w w0 w1 : World}
theorem Kb.fresh (h : Kb P w w0) (k : Kb L w0 w1) (hL : w.heap.size ≤ L) : Kb P w w1 := fun g t cs hg hne h1 h2 => k g t cs (h g t cs hg hne h1 h2) (by have := hg.lt; omega) h1 h2
theorem Rk.trans (h : Rk b Bb P w w0) (k : Rk b Bb P w0 w1) : Rk b Bb P w w1 := ⟨h.below.trans k.below, h.kb.trans k.kb⟩
theorem Rk.local (h : Rk b Bb P w w0) (k : Rk b Bb L w0 w1) (hL : w.heap.size ≤ L) : Rk b Bb P w w1 := ⟨h.below.trans k.below, h.kb.fresh k.kb hL⟩
theorem Rk.alloc (hb : b ≤ w.heap.size) (o : Obj) : Rk b Bb P w (w.alloc o) := ⟨(one_below w o).mono hb, (Kb.refl w).call (one_below w o)⟩
theorem Rk.put (h : Rk b Bb P w w0) (hb : b ≤ P) (i : Nat) (u : Value) : Rk b Bb P w (w0.setCell ⟨P, i, none⟩ u) := ⟨h.below.setCell hb _, h.kb.put i u⟩
theorem Rk.refl (b Bb P : Nat) (w : World) : Rk b Bb P w w := ⟨Below.refl _ _, Kb.refl w⟩
theorem set_same {cs : Array Value} {o : Nat} {u : Value} (h : cs[o]? = some u) : cs.setIfInBounds o u = cs := by
  obtain ⟨ho, e⟩ := Array.getElem?_eq_some_iff.1 h
  apply Array.ext_getElem?
  intro i
  by_cases hi : o = i
  · subst hi; simp [ho, e]
  · rw [Array.getElem?_setIfInBounds_ne hi]
end
end Go.Proofs.Ytbihnmingedgfaa
