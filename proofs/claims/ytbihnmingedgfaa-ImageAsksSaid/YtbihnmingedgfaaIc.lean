/-
The program's image: a part is put (by the writer).
-/
import Derived.Test.YtbihnmingedgfaaIb
namespace Go.Proofs.Ytbihnmingedgfaa
open Go.RowKit Go.Shelf
set_option linter.unusedVariables false

theorem setCell_noop {w : World} {P o : Nat} {t : TypeId} {cs : Array Value} {u : Value} (h : Box w P t cs) (ho : cs[o]? = some u) (k : Nat) : (w.setCell ⟨P, o, none⟩ u).heap[k]? = w.heap[k]? := by
  by_cases e : k = P
  · subst e
    rw [(h.put o u).is, h.is]
    congr 2
    obtain ⟨hlt, he⟩ := Array.getElem?_eq_some_iff.1 ho
    apply Array.ext
    · simp
    · intro i h1 h2
      rw [Array.getElem_setIfInBounds]
      split
      · rename_i e; subst e; exact he.symm
      · rfl
  · exact heap_setCell_other w ⟨P, o, none⟩ k u e
section
variable {b Bb Bp : Nat} {bs : List Int} {w0 w : World}
theorem Wrote.noop {P o : Nat} {t : TypeId} {cs : Array Value} {u : Value} (h : Wrote b Bb w0 w) (hB : Box w P t cs) (ho : cs[o]? = some u) : Wrote b Bb w0 (w.setCell ⟨P, o, none⟩ u) := by
  have hz := (Below.refl 0 w).setCell (p := ⟨P, o, none⟩) (Nat.zero_le _) u
  exact ⟨hz.os.trans h.os, hz.tape.trans h.tape, hz.output.trans h.output, Nat.le_trans h.size hz.size, h.low, fun k hk hc => (setCell_noop hB ho k).trans (h.block k hk hc)⟩
/-- A block that is none of the writer's stays. -/
theorem Box.wrote' {g : Nat} {t : TypeId} {cs : Array Value} (h : Box w0 g t cs) (k : Wrote b Bb w0 w) (hv : ∃ A n c, Box w0 Bb 54 #[.slice A n c]) (h1 : t ≠ 54) (h2 : t ≠ 5) : Box w g t cs := by
  obtain ⟨A, n, c, hv⟩ := hv
  exact h.wrote k (Box.apart h hv h1) h2
theorem Wr.isvar (h : Wr b Bb Bp bs w) : ∃ A n c, Box w Bb 54 #[.slice A n c] := by
  obtain ⟨_, A, c, h, _⟩ := h
  exact ⟨A, _, c, h⟩
end

set_option maxRecDepth 100000 in
set_option maxHeartbeats 1000000 in
theorem layint_w (size : Nat) (z : Int) (hz : z = size) (x : Int) (P o : Nat) (t : TypeId) (cs : Array Value) (bs : List Int) (b Bb Bp : Nat) (w : World) (hs : size ≤ 8) (hx : -9223372036854775808 ≤ x ∧ x ≤ 9223372036854775807) (hbB : b ≤ Bb) (h : Wr b Bb Bp bs w) (hl : bs.length + size ≤ 65536) (hP : Box w P t cs) (ho : cs[o]? = some (.int .i64 x)) (h1 : t ≠ 54) (h2 : t ≠ 5) (h3 : t ≠ 120) :
    Calls Try.prog 124 #[.func (.func 129) #[] #[.pointer (some ⟨Bp, 0, none⟩)], .int .i64 z, .pointer (some ⟨P, o, none⟩)] w fun e w' => e = .returned (.tuple #[]) ∧ Wr b Bb Bp (bs ++ Im.bytesOf size (IntKind.u64.wrap x)) w' ∧ Wrote b Bb w w' := by
  subst hz
  have hwb : IntKind.i64.wrap (IntKind.u64.wrap x) = x := by rw [IntKind.wrap_i64, IntKind.wrap_u64]; omega
  have hvr : 0 ≤ IntKind.u64.wrap x ∧ IntKind.u64.wrap x ≤ 18446744073709551615 := by rw [IntKind.wrap_u64]; omega
  obtain ⟨v, hv⟩ : ∃ v, v = IntKind.u64.wrap x := ⟨_, rfl⟩
  rw [← hv] at hwb hvr ⊢
  have cw := Lib.hid (write_any size v bs b Bb Bp w hs hvr hbB h hl)
  have HH := Lib.hid h
  have HP := Lib.hid hP
  have hvv : IntKind.u64.wrap x = v := hv.symm
  clear hv
  have k0 := hP.cell o
  rw [ho] at k0
  have HO := Lib.hid ho
  clear h hP ho
  go_enter Try.func124, Try.ntmps124
  go_wp2_with (go_at_call 129; ((with_reducible refine (cw.out).mono ?_); rintro e w1 ⟨rfl, hI1, hK1⟩; have P1 := Lib.hid (HP.out.wrote' hK1 HH.out.isvar h1 h2); have I1 := Lib.hid hI1; have K1 := Lib.hid hK1; have k1 := P1.out.cell o; rw [HO.out] at k1; have f1 := P1.out.free o; clear hI1 hK1 k0))
  go_end0
  exact ⟨rfl, I1.out.off (p := ⟨P, o, none⟩) P1.out h3 h1 h2 _, K1.out.noop P1.out HO.out⟩

set_option maxRecDepth 100000 in
set_option maxHeartbeats 1000000 in
theorem layu64_w (size : Nat) (z : Int) (hz : z = size) (x : Int) (P o : Nat) (t : TypeId) (cs : Array Value) (bs : List Int) (b Bb Bp : Nat) (w : World) (hs : size ≤ 8) (hx : 0 ≤ x ∧ x ≤ 18446744073709551615) (hbB : b ≤ Bb) (h : Wr b Bb Bp bs w) (hl : bs.length + size ≤ 65536) (hP : Box w P t cs) (ho : cs[o]? = some (.int .u64 x)) (h1 : t ≠ 54) (h2 : t ≠ 5) (h3 : t ≠ 120) :
    Calls Try.prog 125 #[.func (.func 129) #[] #[.pointer (some ⟨Bp, 0, none⟩)], .int .i64 z, .pointer (some ⟨P, o, none⟩)] w fun e w' => e = .returned (.tuple #[]) ∧ Wr b Bb Bp (bs ++ Im.bytesOf size (x)) w' ∧ Wrote b Bb w w' := by
  subst hz
  have hvr := hx
  obtain ⟨v, hv⟩ : ∃ v, v = x := ⟨_, rfl⟩
  rw [← hv] at hvr ⊢
  have cw := Lib.hid (write_any size v bs b Bb Bp w hs hvr hbB h hl)
  have HH := Lib.hid h
  have HP := Lib.hid hP
  subst hv
  have k0 := hP.cell o
  rw [ho] at k0
  have HO := Lib.hid ho
  clear h hP ho
  go_enter Try.func125, Try.ntmps125
  go_wp2_with (go_at_call 129; ((with_reducible refine (cw.out).mono ?_); rintro e w1 ⟨rfl, hI1, hK1⟩; have P1 := Lib.hid (HP.out.wrote' hK1 HH.out.isvar h1 h2); have I1 := Lib.hid hI1; have K1 := Lib.hid hK1; have k1 := P1.out.cell o; rw [HO.out] at k1; have f1 := P1.out.free o; clear hI1 hK1 k0))
  go_end0
  exact ⟨rfl, I1.out.off (p := ⟨P, o, none⟩) P1.out h3 h1 h2 _, K1.out.noop P1.out HO.out⟩

set_option maxRecDepth 100000 in
set_option maxHeartbeats 1000000 in
theorem layi32_w (size : Nat) (z : Int) (hz : z = size) (x : Int) (P o : Nat) (t : TypeId) (cs : Array Value) (bs : List Int) (b Bb Bp : Nat) (w : World) (hs : size ≤ 8) (hx : -2147483648 ≤ x ∧ x ≤ 2147483647) (hbB : b ≤ Bb) (h : Wr b Bb Bp bs w) (hl : bs.length + size ≤ 65536) (hP : Box w P t cs) (ho : cs[o]? = some (.int .i32 x)) (h1 : t ≠ 54) (h2 : t ≠ 5) (h3 : t ≠ 120) :
    Calls Try.prog 161 #[.func (.func 129) #[] #[.pointer (some ⟨Bp, 0, none⟩)], .int .i64 z, .pointer (some ⟨P, o, none⟩)] w fun e w' => e = .returned (.tuple #[]) ∧ Wr b Bb Bp (bs ++ Im.bytesOf size (IntKind.u64.wrap x)) w' ∧ Wrote b Bb w w' := by
  subst hz
  have hwb : IntKind.i32.wrap (IntKind.u64.wrap x) = x := by rw [IntKind.wrap_i32, IntKind.wrap_u64]; omega
  have hvr : 0 ≤ IntKind.u64.wrap x ∧ IntKind.u64.wrap x ≤ 18446744073709551615 := by rw [IntKind.wrap_u64]; omega
  obtain ⟨v, hv⟩ : ∃ v, v = IntKind.u64.wrap x := ⟨_, rfl⟩
  rw [← hv] at hwb hvr ⊢
  have cw := Lib.hid (write_any size v bs b Bb Bp w hs hvr hbB h hl)
  have HH := Lib.hid h
  have HP := Lib.hid hP
  have hvv : IntKind.u64.wrap x = v := hv.symm
  clear hv
  have k0 := hP.cell o
  rw [ho] at k0
  have HO := Lib.hid ho
  clear h hP ho
  go_enter Try.func161, Try.ntmps161
  go_wp2_with (go_at_call 129; ((with_reducible refine (cw.out).mono ?_); rintro e w1 ⟨rfl, hI1, hK1⟩; have P1 := Lib.hid (HP.out.wrote' hK1 HH.out.isvar h1 h2); have I1 := Lib.hid hI1; have K1 := Lib.hid hK1; have k1 := P1.out.cell o; rw [HO.out] at k1; have f1 := P1.out.free o; clear hI1 hK1 k0))
  go_end0
  exact ⟨rfl, I1.out.off (p := ⟨P, o, none⟩) P1.out h3 h1 h2 _, K1.out.noop P1.out HO.out⟩
end Go.Proofs.Ytbihnmingedgfaa
