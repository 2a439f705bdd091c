/-
Several texts in one: Ic Nl Im In Id Fx Gf Dn Gm Gr Gb Gp Ie If Nw Nr En Ed.
-/
import Derived.Test.YtghomofakpjglaaWi1
namespace Go.Proofs.Ytghomofakpjglaa
open Go.RowKit Go.Shelf
set_option linter.unusedVariables false

theorem setCell_noop {w : World} {P o : Nat} {t : TypeId} {cs : Array Value} {u : Value} (h : Box w P t cs) (ho : cs[o]? = some u) (k : Nat) : (w.setCell ⟨P, o, none⟩ u).heap[k]? = w.heap[k]? := by
  by_cases e : k = P
  · subst e
    rw [(h.put o u).is, h.is]
    congr 2
    obtain ⟨hlt, he⟩ := Array.getElem?_eq_some_iff.1 ho
    apply Array.ext
    · simp
    · intro i h1 h2
      rw [Array.getElem_setIfInBounds]
      split
      · rename_i e; subst e; exact he.symm
      · rfl
  · exact heap_setCell_other w ⟨P, o, none⟩ k u e
section
variable {b Bb Bp : Nat} {bs : List Int} {w0 w : World}
theorem Wrote.noop {P o : Nat} {t : TypeId} {cs : Array Value} {u : Value} (h : Wrote b Bb w0 w) (hB : Box w P t cs) (ho : cs[o]? = some u) : Wrote b Bb w0 (w.setCell ⟨P, o, none⟩ u) := by
  have hz := (Below.refl 0 w).setCell (p := ⟨P, o, none⟩) (Nat.zero_le _) u
  exact ⟨hz.os.trans h.os, hz.tape.trans h.tape, hz.output.trans h.output, Nat.le_trans h.size hz.size, h.low, fun k hk hc => (setCell_noop hB ho k).trans (h.block k hk hc)⟩
/-- A block that is none of the writer's stays. -/
theorem Box.wrote' {g : Nat} {t : TypeId} {cs : Array Value} (h : Box w0 g t cs) (k : Wrote b Bb w0 w) (hv : ∃ A n c, Box w0 Bb 36 #[.slice A n c]) (h1 : t ≠ 36) (h2 : t ≠ 5) : Box w g t cs := by
  obtain ⟨A, n, c, hv⟩ := hv
  exact h.wrote k (Box.apart h hv h1) h2
theorem Wr.isvar (h : Wr b Bb Bp bs w) : ∃ A n c, Box w Bb 36 #[.slice A n c] := by
  obtain ⟨_, A, c, h, _⟩ := h
  exact ⟨A, _, c, h⟩
end

set_option maxRecDepth 100000 in
set_option maxHeartbeats 1000000 in
theorem layint_w (size : Nat) (z : Int) (hz : z = size) (x : Int) (P o : Nat) (t : TypeId) (cs : Array Value) (bs : List Int) (b Bb Bp : Nat) (w : World) (hs : size ≤ 8) (hx : -9223372036854775808 ≤ x ∧ x ≤ 9223372036854775807) (hbB : b ≤ Bb) (h : Wr b Bb Bp bs w) (hl : bs.length + size ≤ 65536) (hP : Box w P t cs) (ho : cs[o]? = some (.int .i64 x)) (h1 : t ≠ 36) (h2 : t ≠ 5) (h3 : t ≠ 82) :
    Calls Try.prog 67 #[.func (.func 73) #[] #[.pointer (some ⟨Bp, 0, none⟩)], .int .i64 z, .pointer (some ⟨P, o, none⟩)] w fun e w' => e = .returned (.tuple #[]) ∧ Wr b Bb Bp (bs ++ Im.bytesOf size (IntKind.u64.wrap x)) w' ∧ Wrote b Bb w w' := by
  subst hz
  have hwb : IntKind.i64.wrap (IntKind.u64.wrap x) = x := by rw [IntKind.wrap_i64, IntKind.wrap_u64]; omega
  have hvr : 0 ≤ IntKind.u64.wrap x ∧ IntKind.u64.wrap x ≤ 18446744073709551615 := by rw [IntKind.wrap_u64]; omega
  obtain ⟨v, hv⟩ : ∃ v, v = IntKind.u64.wrap x := ⟨_, rfl⟩
  rw [← hv] at hwb hvr ⊢
  have cw := Lib.hid (write_any size v bs b Bb Bp w hs hvr hbB h hl)
  have HH := Lib.hid h
  have HP := Lib.hid hP
  have hvv : IntKind.u64.wrap x = v := hv.symm
  clear hv
  have k0 := hP.cell o
  rw [ho] at k0
  have HO := Lib.hid ho
  clear h hP ho
  go_enter Try.func67, Try.ntmps67
  go_wp2_with (go_at_call 73; ((with_reducible refine (cw.out).mono ?_); rintro e w1 ⟨rfl, hI1, hK1⟩; have P1 := Lib.hid (HP.out.wrote' hK1 HH.out.isvar h1 h2); have I1 := Lib.hid hI1; have K1 := Lib.hid hK1; have k1 := P1.out.cell o; rw [HO.out] at k1; have f1 := P1.out.free o; clear hI1 hK1 k0))
  go_end0
  exact ⟨rfl, I1.out.off (p := ⟨P, o, none⟩) P1.out h3 h1 h2 _, K1.out.noop P1.out HO.out⟩

set_option maxRecDepth 100000 in
set_option maxHeartbeats 1000000 in
theorem layu64_w (size : Nat) (z : Int) (hz : z = size) (x : Int) (P o : Nat) (t : TypeId) (cs : Array Value) (bs : List Int) (b Bb Bp : Nat) (w : World) (hs : size ≤ 8) (hx : 0 ≤ x ∧ x ≤ 18446744073709551615) (hbB : b ≤ Bb) (h : Wr b Bb Bp bs w) (hl : bs.length + size ≤ 65536) (hP : Box w P t cs) (ho : cs[o]? = some (.int .u64 x)) (h1 : t ≠ 36) (h2 : t ≠ 5) (h3 : t ≠ 82) :
    Calls Try.prog 68 #[.func (.func 73) #[] #[.pointer (some ⟨Bp, 0, none⟩)], .int .i64 z, .pointer (some ⟨P, o, none⟩)] w fun e w' => e = .returned (.tuple #[]) ∧ Wr b Bb Bp (bs ++ Im.bytesOf size (x)) w' ∧ Wrote b Bb w w' := by
  subst hz
  have hvr := hx
  obtain ⟨v, hv⟩ : ∃ v, v = x := ⟨_, rfl⟩
  rw [← hv] at hvr ⊢
  have cw := Lib.hid (write_any size v bs b Bb Bp w hs hvr hbB h hl)
  have HH := Lib.hid h
  have HP := Lib.hid hP
  subst hv
  have k0 := hP.cell o
  rw [ho] at k0
  have HO := Lib.hid ho
  clear h hP ho
  go_enter Try.func68, Try.ntmps68
  go_wp2_with (go_at_call 73; ((with_reducible refine (cw.out).mono ?_); rintro e w1 ⟨rfl, hI1, hK1⟩; have P1 := Lib.hid (HP.out.wrote' hK1 HH.out.isvar h1 h2); have I1 := Lib.hid hI1; have K1 := Lib.hid hK1; have k1 := P1.out.cell o; rw [HO.out] at k1; have f1 := P1.out.free o; clear hI1 hK1 k0))
  go_end0
  exact ⟨rfl, I1.out.off (p := ⟨P, o, none⟩) P1.out h3 h1 h2 _, K1.out.noop P1.out HO.out⟩

set_option maxRecDepth 100000 in
set_option maxHeartbeats 1000000 in
theorem layi32_w (size : Nat) (z : Int) (hz : z = size) (x : Int) (P o : Nat) (t : TypeId) (cs : Array Value) (bs : List Int) (b Bb Bp : Nat) (w : World) (hs : size ≤ 8) (hx : -2147483648 ≤ x ∧ x ≤ 2147483647) (hbB : b ≤ Bb) (h : Wr b Bb Bp bs w) (hl : bs.length + size ≤ 65536) (hP : Box w P t cs) (ho : cs[o]? = some (.int .i32 x)) (h1 : t ≠ 36) (h2 : t ≠ 5) (h3 : t ≠ 82) :
    Calls Try.prog 101 #[.func (.func 73) #[] #[.pointer (some ⟨Bp, 0, none⟩)], .int .i64 z, .pointer (some ⟨P, o, none⟩)] w fun e w' => e = .returned (.tuple #[]) ∧ Wr b Bb Bp (bs ++ Im.bytesOf size (IntKind.u64.wrap x)) w' ∧ Wrote b Bb w w' := by
  subst hz
  have hwb : IntKind.i32.wrap (IntKind.u64.wrap x) = x := by rw [IntKind.wrap_i32, IntKind.wrap_u64]; omega
  have hvr : 0 ≤ IntKind.u64.wrap x ∧ IntKind.u64.wrap x ≤ 18446744073709551615 := by rw [IntKind.wrap_u64]; omega
  obtain ⟨v, hv⟩ : ∃ v, v = IntKind.u64.wrap x := ⟨_, rfl⟩
  rw [← hv] at hwb hvr ⊢
  have cw := Lib.hid (write_any size v bs b Bb Bp w hs hvr hbB h hl)
  have HH := Lib.hid h
  have HP := Lib.hid hP
  have hvv : IntKind.u64.wrap x = v := hv.symm
  clear hv
  have k0 := hP.cell o
  rw [ho] at k0
  have HO := Lib.hid ho
  clear h hP ho
  go_enter Try.func101, Try.ntmps101
  go_wp2_with (go_at_call 73; ((with_reducible refine (cw.out).mono ?_); rintro e w1 ⟨rfl, hI1, hK1⟩; have P1 := Lib.hid (HP.out.wrote' hK1 HH.out.isvar h1 h2); have I1 := Lib.hid hI1; have K1 := Lib.hid hK1; have k1 := P1.out.cell o; rw [HO.out] at k1; have f1 := P1.out.free o; clear hI1 hK1 k0))
  go_end0
  exact ⟨rfl, I1.out.off (p := ⟨P, o, none⟩) P1.out h3 h1 h2 _, K1.out.noop P1.out HO.out⟩
end Go.Proofs.Ytghomofakpjglaa
namespace Go.Proofs.Ytghomofakpjglaa
open Go.RowKit Go.Shelf
set_option linter.unusedVariables false
set_option linter.unusedSimpArgs false

theorem need_yes (s : ByteArray) (w : World) : Calls Try.prog 37 #[.bool true, .string s] w fun e w' => e = .returned (.tuple #[]) ∧ w = w' := by
  go_enter Try.func37, Try.ntmps37
  go_wp2
  go_end0
  exact ⟨rfl, rfl⟩

theorem need_no (s : ByteArray) (w : World) : Calls Try.prog 37 #[.bool false, .string s] w fun e w' => e = .panicked [{ v := .iface 9 (.string s), recovered := false }] ∧ w = w' := by
  go_enter Try.func37, Try.ntmps37
  go_wp2
  first | exact ⟨rfl, rfl, rfl⟩ | exact ⟨rfl, rfl⟩

theorem Wr.nil {b Bb Bp : Nat} {W : World} (h1 : Box W Bp 82 #[.pointer (some ⟨Bb, 0, none⟩)]) (h2 : Box W Bb 36 #[.slice none 0 0]) : Wr b Bb Bp [] W :=
  ⟨h1, none, 0, h2, World.ownsRow_nil _ _ _ _⟩

theorem writer_any (p : Addr) (w : World) : Calls Try.prog 40 #[.pointer (some p)] w fun e w' => e = .returned (.func (.func 73) #[] #[.pointer (some ⟨w.heap.size, 0, none⟩)]) ∧ w' = w.alloc (.cells #[.pointer (some p)] 82) := by
  have hmf : ∀ (fn : Fn) (first cap : Array Value) (w : World), (Instr.makeFunc fn first cap).run Try.prog w = .ok (.func fn first cap) w := fun _ _ _ _ => rfl
  go_enter Try.func40, Try.ntmps40
  go_wp2
  go_ret
  exact ⟨rfl, rfl⟩

theorem reader_any (p : Addr) (w : World) : Calls Try.prog 46 #[.pointer (some p)] w fun e w' => e = .returned (.func (.func 76) #[] #[.pointer (some ⟨w.heap.size, 0, none⟩)]) ∧ w' = w.alloc (.cells #[.pointer (some p)] 82) := by
  have hmf : ∀ (fn : Fn) (first cap : Array Value) (w : World), (Instr.makeFunc fn first cap).run Try.prog w = .ok (.func fn first cap) w := fun _ _ _ _ => rfl
  go_enter Try.func46, Try.ntmps46
  go_wp2
  go_ret
  exact ⟨rfl, rfl⟩

/-- All blocks but B, b's variable and rows of bytes stay. -/
def Kb (B : Nat) (w w' : World) : Prop := ∀ g t cs, Box w g t cs → g ≠ B → t ≠ 36 → t ≠ 5 → Box w' g t cs
section
variable {B b Bb Bp : Nat} {bs : List Int} {w w' w'' : World}
theorem Kb.refl (w : World) : Kb B w w := fun _ _ _ h _ _ _ => h
theorem Kb.trans (h : Kb B w w') (k : Kb B w' w'') : Kb B w w'' := fun g t cs hg hne h1 h2 => k g t cs (h g t cs hg hne h1 h2) hne h1 h2
theorem Kb.call (h : Kb B w w') (hb : Below w'.heap.size w' w'') : Kb B w w'' := fun g t cs hg hne h1 h2 => (h g t cs hg hne h1 h2).below hb (h g t cs hg hne h1 h2).lt
theorem Kb.wrote (h : Kb B w w') (hW : Wrote b Bb w' w'') (hv : ∃ A n c, Box w' Bb 36 #[.slice A n c]) : Kb B w w'' := fun g t cs hg hne h1 h2 => (h g t cs hg hne h1 h2).wrote' hW hv h1 h2
theorem Kb.put (h : Kb B w w') (i : Nat) (u : Value) : Kb B w (w'.setCell ⟨B, i, none⟩ u) := fun g t cs hg hne h1 h2 => (h g t cs hg hne h1 h2).far (p := ⟨B, i, none⟩) hne u
theorem Kb.row (h : Kb B w w') {S : Nat} (hS : w.heap.size ≤ S) (cs' : Array Value) : Kb B w (w'.setRow S cs') := fun g t cs hg hne h1 h2 => (h g t cs hg hne h1 h2).row_far (by have := hg.lt; omega) cs'
end
end Go.Proofs.Ytghomofakpjglaa
namespace Im
open Go
/-- The number that bytes are, the least first. -/
def val (f : Nat → Int) : Nat → Int
  | 0 => 0
  | k + 1 => val f k + f k * 2 ^ (8 * k)
theorem val_lt (f : Nat → Int) (h : ∀ k, 0 ≤ f k ∧ f k ≤ 255) : ∀ k, 0 ≤ val f k ∧ val f k < 2 ^ (8 * k)
  | 0 => by simp [val]
  | k + 1 => by
    have h1 := val_lt f h k
    have h2 := h k
    have hp : (0 : Int) < 2 ^ (8 * k) := Int.pow_pos (by decide)
    have e : (2 : Int) ^ (8 * (k + 1)) = 256 * 2 ^ (8 * k) := by rw [show 8 * (k + 1) = 8 * k + 8 by omega, Int.pow_add]; omega
    unfold val
    rw [e]
    generalize (2 : Int) ^ (8 * k) = p at *
    generalize f k = x at *
    have a1 : 0 ≤ x * p := Int.mul_nonneg h2.1 (Int.le_of_lt hp)
    have a2 : x * p ≤ 255 * p := Int.mul_le_mul_of_nonneg_right h2.2 (Int.le_of_lt hp)
    omega
theorem or_shift (v x : Int) (k : Nat) (hk : k < 8) (hv : 0 ≤ v ∧ v < 2 ^ (8 * k)) (hx : 0 ≤ x ∧ x ≤ 255) : bits .or .u64 v (x * 2 ^ (8 * k)) = v + x * 2 ^ (8 * k) := by
  obtain ⟨V, rfl⟩ := Int.eq_ofNat_of_zero_le hv.1
  obtain ⟨X, rfl⟩ := Int.eq_ofNat_of_zero_le hx.1
  have hp : 2 ^ (8 * k) ≤ 2 ^ 56 := Nat.pow_le_pow_right (by decide) (by omega)
  have hV : V < 2 ^ (8 * k) := by exact_mod_cast hv.2
  have e : (X : Int) * 2 ^ (8 * k) = ((2 ^ (8 * k) * X : Nat) : Int) := by push_cast; rw [Int.mul_comm]
  have hX : 2 ^ (8 * k) * X ≤ 2 ^ (8 * k) * 255 := Nat.mul_le_mul_left _ (by omega)
  rw [e, u64_or_nat _ _ (by omega) (by omega), Nat.or_comm, ← Nat.two_pow_add_eq_or_of_lt hV]
  push_cast
  omega
end Im
namespace Rp
open Go
section
variable {P : Program} {st : List Nat} {E C D : World → Prop} {Q : Act → (World → Prop) → Prop} {o : Oper} {rest : List Oper} {n : Nat} {a : Act}
theorem lex_read (hs : isStore o = false) (hf : isFree o = false) (hl : isLook o = false) {v : Value} (hrun : ∀ w, C w → (execOp a.eval o).run P w = .ok (.value v) w) (h : wpLex P st E Q rest (n + 1) (a.put o.dst v) C D) : wpLex P st E Q (o :: rest) n a C D := by
  unfold wpLex
  rw [if_neg (by simp [hs]), if_neg (by simp [hf]), if_neg (by simp [hl])]
  exact ⟨v, fun w hw => by unfold Gives; rw [hrun w hw]; exact ⟨rfl, hw⟩, h⟩
end
end Rp
namespace Go.Proofs.Ytghomofakpjglaa
open Go.RowKit Go.Shelf
set_option linter.unusedVariables false
set_option linter.unusedSimpArgs false

/-- What a reader reads from: the variable in block Bb; what is left of the bytes lies below b; the reader holds the variable's place in block Bp. -/
structure Rd (b Bb Bp : Nat) (bs : List Int) (W : World) : Prop where
  ptr : Box W Bp 82 #[.pointer (some ⟨Bb, 0, none⟩)]
  var : ∃ A c, Box W Bb 36 #[.slice A bs.length c] ∧ bs.length ≤ c ∧ Lies W b 1 A bs.length (Im.u8s bs)
section
variable {b Bb Bp : Nat} {bs : List Int} {W W' : World}
theorem Rd.call (h : Rd b Bb Bp bs W) (hb : Below W.heap.size W W') (hs : b ≤ W.heap.size) : Rd b Bb Bp bs W' := by
  obtain ⟨h1, A, c, h2, hc, h3⟩ := h
  exact ⟨h1.below hb h1.lt, A, c, h2.below hb h2.lt, hc, h3.below (hb.mono hs)⟩
theorem Rd.off (h : Rd b Bb Bp bs W) {p : Addr} {t : TypeId} {cs : Array Value} (hp : Box W p.block t cs) (h1 : t ≠ 82) (h2 : t ≠ 36) (hb : b ≤ p.block) (u : Value) : Rd b Bb Bp bs (W.setCell p u) := by
  obtain ⟨k1, A, c, k2, kc, k3⟩ := h
  exact ⟨k1.far (fun e => Box.apart k1 hp (fun e' => h1 e'.symm) e) u, A, c, k2.far (fun e => Box.apart k2 hp (fun e' => h2 e'.symm) e) u, kc, k3.stays fun i hi => heap_setCell_other W p i u (by omega)⟩
theorem Rd.isvar (h : Rd b Bb Bp bs W) : ∃ A n c, Box W Bb 36 #[.slice A n c] := by
  obtain ⟨_, A, c, k2, _⟩ := h
  exact ⟨A, _, c, k2⟩
theorem Rd.ne (h : Rd b Bb Bp bs W) : Bp ≠ Bb := by
  obtain ⟨h1, A, c, h2, _⟩ := h
  exact Box.apart h1 h2 (by decide)
end

theorem Lies.rest {w : World} {b k n c : Nat} {ad : Addr} {xs rest : List Int} (h : Lies w b 1 (some ad) n (Im.u8s (xs ++ rest))) (m : Nat) (hx : xs.length = k) (hc : n ≤ c) (hn : n = k + m) : Lies w b 1 (if c = k then some ad else some (ad.add k)) m (Im.u8s rest) := by
  have hl := h.len
  rw [Im.u8s_len, List.length_append, hx] at hl
  have hm : rest.length = m := by omega
  refine ⟨by rw [Im.u8s_len]; omega, fun h0 => ?_, fun ad' e h0 j u hj => ?_⟩
  · rw [if_neg (by omega)]
    obtain ⟨ad2, e2, hb⟩ := h.start (by omega)
    injection e2 with e2
    subst e2
    exact ⟨_, rfl, by rw [add_block]; exact hb⟩
  · rw [if_neg (by omega)] at e
    injection e with e
    subst e
    have := h.cell ad rfl (by omega) (k + j) u (by
      rw [Im.u8s_append, List.getElem?_append_right (by rw [Im.u8s_len]; omega), Im.u8s_len, hx, Nat.add_sub_cancel_left]
      exact hj)
    rw [← this]
    congr 1
    unfold Addr.add
    by_cases hk0 : k = 0 <;> by_cases hj0 : j = 0 <;> simp [hk0, hj0, Nat.add_assoc]

set_option maxRecDepth 100000 in
set_option maxHeartbeats 4000000 in
theorem read_any (size : Nat) (z : Int) (hz : z = size) (v0 : Int) (f : Nat → Int) (xs rest : List Int) (b Bb Bp : Nat) (w : World) (hs : 1 ≤ size ∧ size ≤ 8) (hx : xs.length = size) (hf : ∀ k (h : k < xs.length), xs[k] = f k) (hf2 : ∀ k, 0 ≤ f k ∧ f k ≤ 255) (hbB : b ≤ Bb) (h : Rd b Bb Bp (xs ++ rest) w) :
    Calls Try.prog 76 #[.int .i64 z, .int .u64 v0, .pointer (some ⟨Bp, 0, none⟩)] w fun e w' => e = .returned (.int .u64 (Im.val f size)) ∧ Rd b Bb Bp rest w' ∧ Wrote b Bb w w' := by
  subst hz
  obtain ⟨hP, A, c, hB, hc, hL⟩ := h
  have hlen : (xs ++ rest).length = size + rest.length := by rw [List.length_append, hx]
  rw [hlen] at hB hc hL
  obtain ⟨n, hn⟩ : ∃ n, n = size + rest.length := ⟨_, rfl⟩
  rw [← hn] at hB hc hL
  obtain ⟨ad, rfl, had⟩ := hL.start (by omega)
  have hcell : ∀ k, k < size → w.cell? (ad.add k) = some (.int .u8 (f k)) := fun k hk => hL.cell ad rfl (by omega) k _ (by
    unfold Im.u8s
    rw [List.getElem?_map, List.getElem?_append_left (by omega), List.getElem?_eq_getElem (by omega), hf k (by omega)]; rfl)
  have hsn : (size : Int) ≤ n := by omega
  have hs1 : ∀ W, (Instr.slice 36 (.slice (some ad) n c) none (some (.int .i64 size)) none).run Try.prog W = .ok (.slice (some ad) size c) W := fun W => by
    have h0 : (0 : Int) ≤ size := by omega
    have h2 : (size : Int) ≤ c := by omega
    have hc0 : ¬ c = 0 := by omega
    go_simp
  have hs2 : ∀ W, (Instr.slice 36 (.slice (some ad) n c) (some (.int .i64 size)) none none).run Try.prog W = .ok (.slice (if c = size then some ad else some (ad.add size)) rest.length (c - size)) W := fun W => by
    have h0 : (0 : Int) ≤ size := by omega
    have h2 : (size : Int) ≤ n := by omega
    have hr : n - size = rest.length := by omega
    clear hn hlen
    go_simp
  obtain ⟨A2, hA2⟩ : ∃ A2, A2 = if c = size then some ad else some (ad.add size) := ⟨_, rfl⟩
  rw [← hA2] at hs2
  have HA := Lib.hid hA2
  clear hA2
  have HP := Lib.hid hP
  have HB := Lib.hid hB
  have HL := Lib.hid hL
  have HC := Lib.hid hc
  have HF := Lib.hid hf2
  have HV := Lib.hid (Im.val_lt f hf2)
  have b0 := hB.cell 0
  have p0 := hP.cell 0
  have HN := Lib.hid hn
  have HX := Lib.hid hx
  have HE := Lib.hid (show Bp ≠ Bb from Box.apart hP hB (by decide))
  have HS := Lib.hid hs
  clear hP hB hL hc hn hs hx hf hf2 hlen
  go_enter Try.func76, Try.ntmps76
  go_wp2_with (first | (go_at_call 37; ((with_reducible refine (need_yes _ _).mono ?_); rintro e w2 ⟨rfl, rfl⟩)))
  go_loopw [6, 22] (fun v i wr => ∃ k : Nat, k ≤ size ∧ i = .int .i64 k ∧ v = .int .u64 (Im.val f k) ∧ w = wr) (fun _ i _ => size - (intOf i).toNat)
  case atStart => exact ⟨0, by omega, rfl, rfl, rfl⟩
  case round =>
    obtain ⟨k, hk, rfl, rfl, rfl⟩ := hrel
    by_cases hlt : k < size
    · have hk8 : (k : Int) < size := by omega
      have hck := hcell k hlt
      have h8 : IntKind.i64.wrap (8 * (k : Int)) = 8 * k := by have := HS.out.2; rw [IntKind.wrap_i64]; omega
      have hp0 := HV.out k
      have hfk := HF.out k
      have hsz := HS.out.2
      have hpk : (0 : Int) < 2 ^ (8 * k) := Int.pow_pos (by decide)
      have hwr : IntKind.u64.wrap (f k * 2 ^ (8 * k)) = f k * 2 ^ (8 * k) := by
        have hp : (2 : Nat) ^ (8 * k) ≤ 2 ^ 56 := Nat.pow_le_pow_right (by decide) (by omega)
        have hp' : (2 : Int) ^ (8 * k) ≤ 2 ^ 56 := by exact_mod_cast hp
        have a1 : 0 ≤ f k * 2 ^ (8 * k) := Int.mul_nonneg hfk.1 (Int.le_of_lt hpk)
        have a2 : f k * 2 ^ (8 * k) ≤ 255 * 2 ^ (8 * k) := Int.mul_le_mul_of_nonneg_right hfk.2 (Int.le_of_lt hpk)
        rw [IntKind.wrap_u64]
        generalize f k * 2 ^ (8 * k) = y at *
        omega
      have hor := Im.or_shift (Im.val f k) (f k) k (by omega) hp0 hfk
      have hnext : bits .or .u64 (Im.val f k) (IntKind.u64.wrap (f k * 2 ^ (8 * k))) = Im.val f (k + 1) := by rw [hwr, hor]; rfl
      have HW := Lib.hid hnext
      obtain ⟨vk, hvk⟩ : ∃ vk, vk = Im.val f k := ⟨_, rfl⟩
      rw [← hvk] at HW
      rw [← hvk]
      clear hvk hnext hp0 hpk hor hwr
      go_wp2
      go_roundw
      case rel => exact ⟨k + 1, by omega, by go_num, by rw [HW.out], by first | rfl | trivial⟩
      case measure => simp [intOf]; omega
    · have hk8 : ¬ (k : Int) < size := by omega
      obtain rfl : k = size := by omega
      go_upto_region 8 with fail
      refine Rp.wp_region_lex (by kernel_rfl) [] (by kernel_rfl) (· = w.drew) (fun W => Box W Bp 82 #[.pointer (some ⟨Bb, 0, none⟩)] ∧ Box W Bb 36 #[.slice (some ad) n c]) (fun _ => True) rfl (fun W hW => ⟨hW ▸ ⟨HP.out.drew, HB.out.drew⟩, trivial⟩) ?_
      repeat (first
        | (apply Rp.lex_free rfl rfl; focus (intro _; go_simp; first | done | rfl))
        | (apply Rp.lex_look rfl rfl rfl rfl; focus (intro W hW; obtain ⟨hW1, hW2⟩ := hW; have c0 := Box.cell hW1; have c1 := Box.cell hW2; clear hW1 hW2; go_simp; first | done | rfl)))
      refine Rp.lex_read rfl rfl rfl (v := .slice A2 rest.length (c - k)) (fun W hW => ?_) ?_
      focus (go_simp; first | done | rfl)
      repeat (first
        | (apply Rp.lex_free rfl rfl; focus (intro _; go_simp; first | done | rfl))
        | (apply Rp.lex_look rfl rfl rfl rfl; focus (intro W hW; obtain ⟨hW1, hW2⟩ := hW; have c0 := Box.cell hW1; have c1 := Box.cell hW2; clear hW1 hW2; go_simp; first | done | rfl)))
      refine Rp.lex_store rfl rfl (C' := (· = w.drew.setCell ⟨Bb, 0, none⟩ (.slice A2 rest.length (c - k)))) (D' := fun _ => True) (fun W hW => ⟨_, ?_, rfl⟩) (fun _ _ => ⟨trivial, trivial⟩) ?_
      focus (subst hW; have f2 := HB.out.drew.free; have k2 := HB.out.drew.cell; go_simp; first | done | rfl)
      refine Rp.lex_end fun W2 hW2 => ?_
      have HH : Rd b Bb Bp rest W2 := by
        subst hW2
        refine ⟨HP.out.drew.far (p := ⟨Bb, 0, none⟩) HE.out _, _, c - k, HB.out.drew.put 0 _, by have := HN.out; have := HC.out; omega, ?_⟩
        rw [HA.out]
        refine (HL.out.rest rest.length (by rw [HX.out]) HC.out HN.out).stays fun i hi => ?_
        exact heap_setCell_other w.drew ⟨Bb, 0, none⟩ i _ (by show i ≠ Bb; omega)
      have HK : Wrote b Bb w W2 := by subst hW2; exact (Wrote.refl hbB w).drew.put 0 _
      have H2 := Lib.hid HH
      have K2 := Lib.hid HK
      clear HH HK hW2
      go_wp2
      go_ret
      exact ⟨rfl, H2.out, K2.out⟩
end Go.Proofs.Ytghomofakpjglaa
namespace Im
open Go
/-- The byte at place k of a number. -/
def byte (v : Int) (k : Nat) : Int := v / 2 ^ (8 * k) % 256
theorem byte_lt (v : Int) (k : Nat) : 0 ≤ byte v k ∧ byte v k ≤ 255 := by unfold byte; omega
theorem bytesOf_at? : ∀ (n : Nat) (v : Int) (k : Nat), k < n → (bytesOf n v)[k]? = some (byte v k)
  | 0, v, k, h => by omega
  | n + 1, v, k, h => by
    show (bytesOf n v ++ [v / 2 ^ (8 * n) % 256])[k]? = _
    by_cases hk : k < n
    · rw [List.getElem?_append_left (by rw [bytesOf_len]; exact hk)]
      exact bytesOf_at? n v k hk
    · obtain rfl : k = n := by omega
      rw [List.getElem?_append_right (by rw [bytesOf_len]; omega)]
      simp [bytesOf_len, byte]
theorem bytesOf_at (n : Nat) (v : Int) (k : Nat) (h : k < (bytesOf n v).length) : (bytesOf n v)[k] = byte v k := by
  have := bytesOf_at? n v k (by rw [bytesOf_len] at h; exact h)
  rw [List.getElem?_eq_getElem h] at this
  injection this
theorem val_byte (v : Int) : ∀ n, val (byte v) n = v % 2 ^ (8 * n)
  | 0 => by simp [val]
  | n + 1 => by
    unfold val
    rw [val_byte v n]
    have hp : (0 : Int) < 2 ^ (8 * n) := Int.pow_pos (by decide)
    have e : (2 : Int) ^ (8 * (n + 1)) = 2 ^ (8 * n) * 256 := by rw [show 8 * (n + 1) = 8 * n + 8 by omega, Int.pow_add]; rfl
    unfold byte
    rw [e]
    generalize (2 : Int) ^ (8 * n) = p at *
    have h3 : v / (p * 256) = v / p / 256 := by rw [Int.ediv_ediv_of_nonneg (by omega)]
    rw [Int.emod_def v (p * 256), h3, Int.emod_def v p]
    have h2 : v / p = 256 * (v / p / 256) + v / p % 256 := (Int.mul_ediv_add_emod (v / p) 256).symm
    generalize v / p / 256 = d at *
    generalize v / p % 256 = r at *
    rw [h2]
    grind
/-- The cells cs' are cs, but for those from o on that are l. -/
def Patch (cs : Array Value) (o : Nat) (l : List Value) (cs' : Array Value) : Prop := ∀ j, cs'[j]? = if o ≤ j ∧ j < o + l.length then l[j - o]? else cs[j]?
theorem Patch.nil (cs : Array Value) (o : Nat) : Patch cs o [] cs := fun j => by rw [if_neg (by simp)]
theorem Patch.one {cs : Array Value} {o : Nat} {u : Value} (v : Value) (h : cs[o]? = some u) : Patch cs o [v] (cs.setIfInBounds o v) := fun j => by
  have ho : o < cs.size := (Array.getElem?_eq_some_iff.1 h).1
  by_cases e : o = j
  · subst e
    simp [ho]
  · rw [if_neg (by simp; omega), Array.getElem?_setIfInBounds_ne e]
theorem Patch.trans {cs cs' cs'' : Array Value} {o p : Nat} {l m : List Value} (h : Patch cs o l cs') (k : Patch cs' p m cs'') (hp : p = o + l.length) : Patch cs o (l ++ m) cs'' := fun j => by
  rw [k j, h j, List.length_append]
  subst hp
  by_cases h1 : o ≤ j ∧ j < o + l.length
  · rw [if_pos h1, if_neg (by omega), if_pos (by omega), List.getElem?_append_left (by omega)]
  · by_cases h2 : o + l.length ≤ j ∧ j < o + l.length + m.length
    · rw [if_pos h2, if_pos (by omega), List.getElem?_append_right (by omega)]
      congr 1; omega
    · rw [if_neg h2, if_neg h1, if_neg (by omega)]
theorem Patch.cell {cs cs' : Array Value} {o : Nat} {l : List Value} (h : Patch cs o l cs') {j : Nat} (hj : j < o ∨ o + l.length ≤ j) : cs'[j]? = cs[j]? := by rw [h j, if_neg (by omega)]
theorem Patch.at {cs cs' : Array Value} {o : Nat} {l : List Value} (h : Patch cs o l cs') (i : Nat) (hi : i < l.length) : cs'[o + i]? = l[i]? := by rw [h (o + i), if_pos (by omega), Nat.add_sub_cancel_left]
/-- What stands there already may be said to be patched, too. -/
theorem Patch.more {cs cs' : Array Value} {o : Nat} {l : List Value} (h : Patch cs o l cs') (m : List Value) (hm : ∀ i, i < m.length → cs[o + l.length + i]? = m[i]?) : Patch cs o (l ++ m) cs' := fun j => by
  rw [h j, List.length_append]
  by_cases h1 : o ≤ j ∧ j < o + l.length
  · rw [if_pos h1, if_pos (by omega), List.getElem?_append_left (by omega)]
  · rw [if_neg h1]
    by_cases h2 : o + l.length ≤ j ∧ j < o + l.length + m.length
    · rw [if_pos (by omega), List.getElem?_append_right (by omega), ← hm _ (by omega)]
      congr 1; omega
    · rw [if_neg (by omega)]
end Im
namespace Go.Proofs.Ytghomofakpjglaa
open Go.RowKit Go.Shelf
set_option linter.unusedVariables false
set_option linter.unusedSimpArgs false

theorem read_num (size : Nat) (z : Int) (hz : z = size) (v0 v : Int) (rest : List Int) (b Bb Bp : Nat) (w : World) (hs : 1 ≤ size ∧ size ≤ 8) (hbB : b ≤ Bb) (h : Rd b Bb Bp (Im.bytesOf size v ++ rest) w) :
    Calls Try.prog 76 #[.int .i64 z, .int .u64 v0, .pointer (some ⟨Bp, 0, none⟩)] w fun e w' => e = .returned (.int .u64 (v % 2 ^ (8 * size))) ∧ Rd b Bb Bp rest w' ∧ Wrote b Bb w w' := by
  rw [← Im.val_byte]
  exact read_any size z hz v0 (Im.byte v) (Im.bytesOf size v) rest b Bb Bp w hs (Im.bytesOf_len _ _) (fun k hk => Im.bytesOf_at _ _ _ hk) (Im.byte_lt v) hbB h

/-- What a reader does to the world, where it lays what it reads in block P. -/
structure Rk (b Bb P : Nat) (w w' : World) : Prop where
  below : Below b w w'
  kb : Kb P w w'

section
variable {b Bb P L : Nat} {w w0 w1 : World}
theorem Kb.fresh (h : Kb P w w0) (k : Kb L w0 w1) (hL : w.heap.size ≤ L) : Kb P w w1 := fun g t cs hg hne h1 h2 => k g t cs (h g t cs hg hne h1 h2) (by have := hg.lt; omega) h1 h2
theorem Rk.trans (h : Rk b Bb P w w0) (k : Rk b Bb P w0 w1) : Rk b Bb P w w1 := ⟨h.below.trans k.below, h.kb.trans k.kb⟩
theorem Rk.local (h : Rk b Bb P w w0) (k : Rk b Bb L w0 w1) (hL : w.heap.size ≤ L) : Rk b Bb P w w1 := ⟨h.below.trans k.below, h.kb.fresh k.kb hL⟩
theorem Rk.alloc (hb : b ≤ w.heap.size) (o : Obj) : Rk b Bb P w (w.alloc o) := ⟨(one_below w o).mono hb, (Kb.refl w).call (one_below w o)⟩
theorem Rk.put (h : Rk b Bb P w w0) (hb : b ≤ P) (i : Nat) (u : Value) : Rk b Bb P w (w0.setCell ⟨P, i, none⟩ u) := ⟨h.below.setCell hb _, h.kb.put i u⟩
theorem Rk.refl (b Bb P : Nat) (w : World) : Rk b Bb P w w := ⟨Below.refl _ _, Kb.refl w⟩
theorem set_same {cs : Array Value} {o : Nat} {u : Value} (h : cs[o]? = some u) : cs.setIfInBounds o u = cs := by
  obtain ⟨ho, e⟩ := Array.getElem?_eq_some_iff.1 h
  apply Array.ext_getElem?
  intro i
  by_cases hi : o = i
  · subst hi; simp [ho, e]
  · rw [Array.getElem?_setIfInBounds_ne hi]
end
end Go.Proofs.Ytghomofakpjglaa
namespace Go.Proofs.Ytghomofakpjglaa
open Go.RowKit Go.Shelf
set_option linter.unusedVariables false

def Im.flight (x : Nat → Int) : Nat → List Int
  | 0 => []
  | k + 1 => Im.flight x k ++ Im.bytesOf 4 (IntKind.u64.wrap (x k))
theorem Im.flight_len (x : Nat → Int) : ∀ k, (Im.flight x k).length = 4 * k
  | 0 => rfl
  | k + 1 => by show (Im.flight x k ++ _).length = _; rw [List.length_append, Im.flight_len x k, Im.bytesOf_len]; omega

set_option maxRecDepth 100000 in
set_option maxHeartbeats 2000000 in
theorem layflight_w (x : Nat → Int) (p : Nat → Nat) (P Bq : Nat) (t : TypeId) (cs : Array Value) (bs : List Int) (b Bb Bp : Nat) (w : World) (hx : ∀ k, k < 4 → -2147483648 ≤ x k ∧ x k ≤ 2147483647) (hbB : b ≤ Bb) (h : Wr b Bb Bp bs w) (hl : bs.length + 16 ≤ 65536) (hP : Box w P t cs) (ho : ∀ k, k < 4 → cs[p k]? = some (.int .i32 (x k))) (h1 : t ≠ 36) (h2 : t ≠ 5) (h3 : t ≠ 82)
    (hq : Box w Bq 139 #[.pointer (some ⟨P, p 0, none⟩), .pointer (some ⟨P, p 1, none⟩), .pointer (some ⟨P, p 2, none⟩), .pointer (some ⟨P, p 3, none⟩)]) (c : Nat) :
    Calls Try.prog 89 #[.func (.func 73) #[] #[.pointer (some ⟨Bp, 0, none⟩)], .slice (some ⟨Bq, 0, none⟩) 4 c] w fun e w' => e = .returned (.tuple #[]) ∧ Wr b Bb Bp (bs ++ Im.flight x 4) w' ∧ Wrote b Bb w w' := by
  have HH := Lib.hid h
  have HP := Lib.hid hP
  have HQ := Lib.hid hq
  clear h hP hq
  go_enter Try.func89, Try.ntmps89
  go_wp2
  go_loopw [8] (fun i wr => ∃ k : Nat, k ≤ 4 ∧ i = .int .i64 k ∧ Wr b Bb Bp (bs ++ Im.flight x k) wr ∧ Wrote b Bb w wr) (fun i _ => 4 - (intOf i).toNat)
  case atStart => exact ⟨0, by omega, rfl, by simpa [Im.flight] using HH.out, Wrote.refl hbB w⟩
  case round =>
    obtain ⟨k, hk, rfl, hI, hK⟩ := hrel
    by_cases hlt : k < 4
    · have hk8 : (k : Int) < 4 := by omega
      have P1 := HP.out.wrote' hK HH.out.isvar h1 h2
      have Q1 := HQ.out.wrote' hK HH.out.isvar (by decide) (by decide)
      have qc := Q1.cell k
      have hqk : (#[.pointer (some ⟨P, p 0, none⟩), .pointer (some ⟨P, p 1, none⟩), .pointer (some ⟨P, p 2, none⟩), .pointer (some ⟨P, p 3, none⟩)] : Array Value)[k]? = some (.pointer (some ⟨P, p k, none⟩)) := by
        match k, hlt with
        | 0, _ | 1, _ | 2, _ | 3, _ => rfl
      rw [hqk] at qc
      have cl := Lib.hid (layi32_w 4 4 rfl (x k) P (p k) t cs (bs ++ Im.flight x k) b Bb Bp wr (by decide) (hx k hlt) hbB hI (by rw [List.length_append, Im.flight_len]; omega) P1 (ho k hlt) h1 h2 h3)
      rw [List.append_assoc, show Im.flight x k ++ Im.bytesOf 4 (IntKind.u64.wrap (x k)) = Im.flight x (k + 1) from rfl] at cl
      have HK := Lib.hid hK
      clear hI hK P1 Q1 hqk
      go_wp2_with (go_at_call 101; ((with_reducible refine (cl.out).mono ?_); rintro e w1 ⟨rfl, hI1, hK1⟩; have I1 := Lib.hid hI1; have K1 := Lib.hid (HK.out.trans hK1); clear hI1 hK1 qc))
      go_roundw
      case rel => exact ⟨k + 1, by omega, by go_num, I1.out, K1.out⟩
      case measure => simp [intOf]; omega
    · have hk8 : ¬ (k : Int) < 4 := by omega
      obtain rfl : k = 4 := by omega
      have HI := Lib.hid hI
      have HK := Lib.hid hK
      clear hI hK
      go_wp2
      go_end0
      exact ⟨rfl, HI.out, HK.out⟩

set_option maxRecDepth 100000 in
set_option maxHeartbeats 2000000 in
theorem layseat_w (pe g : Int) (P o : Nat) (t : TypeId) (cs : Array Value) (bs : List Int) (b Bb Bp : Nat) (w : World) (hpe : -1 ≤ pe ∧ pe ≤ 60000) (hg : 0 ≤ g ∧ g ≤ 60000) (hbB : b ≤ Bb) (h : Wr b Bb Bp bs w) (hl : bs.length + 3 ≤ 65536) (hP : Box w P t cs) (ho : cs[o]? = some (.int .i64 pe)) (ho1 : cs[o + 1]? = some (.int .i64 g)) (h1 : t ≠ 36) (h2 : t ≠ 5) (h3 : t ≠ 82) :
    Calls Try.prog 72 #[.func (.func 73) #[] #[.pointer (some ⟨Bp, 0, none⟩)], .pointer (some ⟨P, o, none⟩)] w fun e w' => e = .returned (.tuple #[]) ∧ Wr b Bb Bp (bs ++ (Im.bytesOf 1 (pe + 1) ++ Im.bytesOf 2 g)) w' ∧ Wrote b Bb w w' := by
  have hw1 : IntKind.i64.wrap (pe + 1) = pe + 1 := by rw [IntKind.wrap_i64]; omega
  have hw2 : IntKind.u64.wrap (pe + 1) = pe + 1 := by rw [IntKind.wrap_u64]; omega
  have hw3 : IntKind.u64.wrap g = g := by rw [IntKind.wrap_u64]; omega
  have hw4 : IntKind.i64.wrap (pe + 1 - 1) = pe := by rw [IntKind.wrap_i64]; omega
  have k0 := hP.cell o
  rw [ho] at k0
  have HP := Lib.hid hP
  have HL := Lib.hid (Box.made w 3 #[.int .i64 (pe + 1)])
  have HPA := Lib.hid (hP.alloc (.cells #[.int .i64 (pe + 1)] 3))
  have HA := Lib.hid (h.alloc (.cells #[.int .i64 (pe + 1)] 3))
  have WA := Lib.hid ((Wrote.refl hbB w).alloc (.cells #[.int .i64 (pe + 1)] 3))
  have c1 := Lib.hid (layint_w 1 1 rfl (pe + 1) w.heap.size 0 3 #[.int .i64 (pe + 1)] bs b Bb Bp _ (by decide) (by omega) hbB HA.out (by omega) HL.out rfl (by decide) (by decide) (by decide))
  have c2 := fun X (hX : Wr b Bb Bp (bs ++ Im.bytesOf 1 (pe + 1)) X) (hB : Box X P t cs) => Lib.hid (layint_w 2 2 rfl g P (o + 1) t cs (bs ++ Im.bytesOf 1 (pe + 1)) b Bb Bp X (by decide) (by omega) hbB hX (by rw [List.length_append, Im.bytesOf_len]; omega) hB ho1 h1 h2 h3)
  rw [hw2] at c1
  rw [hw3] at c2
  have hvar := Lib.hid HA.out.isvar
  have HO := Lib.hid ho
  have ltP := hP.lt
  clear h hP ho ho1 hw2 hw3
  go_enter Try.func72, Try.ntmps72
  go_upto_region 3 with (go_at_call 67; ((with_reducible refine (c1.out).mono ?_); rintro e w1 ⟨rfl, hI1, hK1⟩; have L1 := HL.out.wrote' hK1 hvar.out (by decide) (by decide); have l1 := L1.cell 0; have P1 := Lib.hid (HPA.out.wrote' hK1 hvar.out h1 h2); have p1 := P1.out.cell o; rw [HO.out] at p1; have f1 := P1.out.free o; have I1 := Lib.hid hI1; have K1 := Lib.hid (WA.out.trans hK1); clear hI1 hK1 L1 k0))
  obtain ⟨U, hU⟩ : ∃ U, U = w1.setCell ⟨P, o, none⟩ (.int .i64 pe) := ⟨_, rfl⟩
  have IU : Wr b Bb Bp (bs ++ Im.bytesOf 1 (pe + 1)) U := by rw [hU]; exact I1.out.off (p := ⟨P, o, none⟩) P1.out h3 h1 h2 _
  have KU : Wrote b Bb w U := by rw [hU]; exact K1.out.noop P1.out HO.out
  have PU : Box U P t cs := ⟨by rw [hU, setCell_noop P1.out HO.out]; exact P1.out.is⟩
  rw [← hU]
  have c2 := c2 U IU PU
  have KU := Lib.hid KU
  clear hU IU PU I1 K1 P1 p1 f1 l1
  go_wp2_with (go_at_call 67; ((with_reducible refine (c2.out).mono ?_); rintro e w2 ⟨rfl, hI2, hK2⟩; have I2 := Lib.hid hI2; have K2 := Lib.hid (KU.out.trans hK2); clear hI2 hK2))
  go_end0
  exact ⟨rfl, by rw [← List.append_assoc]; exact I2.out, K2.out⟩
end Go.Proofs.Ytghomofakpjglaa
namespace Fx

def cut (v : Int) : Int := min (max v (-2147483648)) 2147483647
def clamp (a lo hi : Int) : Int := min (max a lo) hi
/-- The greatest whole number whose square is not above n. -/
noncomputable def sq (n : Nat) : Nat := Classical.epsilon fun r => r * r ≤ n ∧ n < (r + 1) * (r + 1)

theorem sq_one {n r s : Nat} (h : r * r ≤ n ∧ n < (r + 1) * (r + 1)) (h' : s * s ≤ n ∧ n < (s + 1) * (s + 1)) : r = s := by
  rcases Nat.lt_trichotomy r s with c | c | c
  · have := Nat.mul_le_mul (show r + 1 ≤ s from c) (show r + 1 ≤ s from c)
    omega
  · exact c
  · have := Nat.mul_le_mul (show s + 1 ≤ r from c) (show s + 1 ≤ r from c)
    omega
theorem sq_is {n r : Nat} (h : r * r ≤ n ∧ n < (r + 1) * (r + 1)) : sq n = r := sq_one (Classical.epsilon_spec (p := fun r => r * r ≤ n ∧ n < (r + 1) * (r + 1)) ⟨r, h⟩) h
noncomputable def root (a : Int) : Int := if a ≤ 0 then 0 else sq (a.toNat * 65536)
/-- A root that is right in every digit from place j on, and has none below. -/
structure Half (n R j : Nat) : Prop where
  whole : R % 2 ^ j = 0
  lo : R * R ≤ n
  hi : n < (R + 2 ^ j) * (R + 2 ^ j)

theorem Half.start {n j : Nat} (h : n < 2 ^ j * 2 ^ j) : Half n 0 j := ⟨Nat.zero_mod _, by omega, by rwa [Nat.zero_add]⟩
theorem Half.take {n R j : Nat} (h : Half n R (j + 1)) (c : (R + 2 ^ j) * (R + 2 ^ j) ≤ n) : Half n (R + 2 ^ j) j := by
  have e : 2 ^ (j + 1) = 2 ^ j + 2 ^ j := by rw [Nat.pow_succ]; omega
  refine ⟨?_, c, ?_⟩
  · have := Nat.mod_mod_of_dvd R (show 2 ^ j ∣ 2 ^ (j + 1) from ⟨2, by rw [Nat.pow_succ]⟩)
    rw [h.whole, Nat.zero_mod] at this
    rw [Nat.add_mod_right]; omega
  · have := h.hi; rw [e, ← Nat.add_assoc] at this; exact this
theorem Half.done {n R : Nat} (h : Half n R 0) : sq n = R := sq_is ⟨h.lo, h.hi⟩
theorem Half.below {n R j : Nat} (h : Half n R j) (m : Nat) (hm : n < m * m) : R < m := by
  by_cases c : R < m
  · exact c
  · have := Nat.mul_le_mul (show m ≤ R by omega) (show m ≤ R by omega)
    have := h.lo
    omega
theorem Half.or {n R j : Nat} (h : Half n R (j + 1)) : R ||| 2 ^ j = R + 2 ^ j := by
  have hd := Nat.div_add_mod R (2 ^ (j + 1))
  rw [h.whole, Nat.add_zero] at hd
  have hlt : 2 ^ j < 2 ^ (j + 1) := Nat.pow_lt_pow_right (by omega) (by omega)
  have := Nat.two_pow_add_eq_or_of_lt hlt (R / 2 ^ (j + 1))
  rw [hd] at this
  exact this.symm
end Fx
namespace Gf

def wrap (a : Int) : Int := a % 16777216
def move (a v : Int) : Int := (a + v) % 16777216
def gap (a b : Int) : Int := (b - a + 8388608) % 16777216 - 8388608
def near (g : Int) : Bool := decide (-786432 < g) && decide (g < 786432)
def hits (ax ay bx by' : Int) : Bool := near (gap ax bx) && near (gap ay by')
def push (v s : Int) : Int := Fx.clamp (Fx.cut (v - v.tdiv 16 + 256 * s)) (-524288) 524288
def tame (a : Int) : Int := if a = -128 then -127 else a
def way (a : Int) : Int := if 0 < a then 393216 else if a < 0 then -393216 else 0
def aimx (x y : Int) : Int := if x = 0 ∧ y = 0 then 393216 else way x
def aimy (y : Int) : Int := way y

/-- The remainder that Go tells, brought up. -/
theorem around_eq (v : Int) : (if v.tmod 16777216 < 0 then v.tmod 16777216 + 16777216 else v.tmod 16777216) = v % 16777216 := by
  have h1 := Int.tmod_eq_emod (a := v) (b := 16777216)
  split <;> (split at h1 <;> omega)
theorem tmod_bd (v : Int) : -16777216 < v.tmod 16777216 ∧ v.tmod 16777216 < 16777216 := ⟨Int.lt_tmod_of_pos v (by omega), Int.tmod_lt_of_pos v (by omega)⟩
end Gf
namespace Dn
/-- The next throw. -/
def next (d : Int) : Int := (d * 6364136223846793005 + 1442695040888963407) % 18446744073709551616
/-- One byte mixed in. -/
def mix (h c : Int) : Int := ((h.toNat ^^^ c.toNat : Nat) : Int) * 1099511628211 % 18446744073709551616
/-- The upper 32 bits, times n, the bits above 32. -/
def share (e n : Int) : Int := e / 4294967296 * n / 4294967296
/-- What a text begins with. -/
def seed (l : List UInt8) : Int := l.foldl (fun h c => mix h (c.toNat : Int)) 14695981039346656037

theorem mix_bd (h c : Int) : 0 ≤ mix h c ∧ mix h c ≤ 18446744073709551615 := by unfold mix; omega
theorem seed_nil : seed [] = 14695981039346656037 := rfl
theorem seed_snoc (l : List UInt8) (c : UInt8) : seed (l ++ [c]) = mix (seed l) (c.toNat : Int) := by unfold seed; rw [List.foldl_append]; rfl
theorem seed_bd (l : List UInt8) : 0 ≤ seed l ∧ seed l ≤ 18446744073709551615 := by
  rcases List.eq_nil_or_concat l with rfl | ⟨m, c, rfl⟩
  · rw [seed_nil]; omega
  · rw [List.concat_eq_append, seed_snoc]; exact mix_bd _ _
end Dn
namespace Gm
open Go

structure Ship where
  on : Bool
  x : Int
  y : Int
  vx : Int
  vy : Int
  cool : Int
  score : Int
structure Shot where
  owner : Int
  x : Int
  y : Int
  vx : Int
  vy : Int
  left : Int
structure In where
  x : Int
  y : Int
  b : Int
/-- A game: of the ships those of slots 0 to 7 count. -/
structure G where
  frame : Int
  dice : Int
  ship : Nat → Ship
  shots : List Shot

def Ship.none : Ship := ⟨false, 0, 0, 0, 0, 0, 0⟩
def upd (f : Nat → Ship) (i : Nat) (s : Ship) : Nat → Ship := fun j => if j = i then s else f j

def Ship.cells (s : Ship) : List Value := [.bool s.on, .int .i32 s.x, .int .i32 s.y, .int .i32 s.vx, .int .i32 s.vy, .int .i64 s.cool, .int .i64 s.score]
def Shot.cells (s : Shot) : List Value := [.int .i64 s.owner, .int .i32 s.x, .int .i32 s.y, .int .i32 s.vx, .int .i32 s.vy, .int .i64 s.left]
def In.cells (p : In) : List Value := [.int .i8 p.x, .int .i8 p.y, .int .u8 p.b]
def shipCells (f : Nat → Ship) : List Value := (f 0).cells ++ ((f 1).cells ++ ((f 2).cells ++ ((f 3).cells ++ ((f 4).cells ++ ((f 5).cells ++ ((f 6).cells ++ (f 7).cells))))))
/-- The 59 cells of a game whose shots are the slice s. -/
def cells (g : G) (s : Value) : Array Value := ([Value.int .i64 g.frame, Value.int .u64 g.dice] ++ shipCells g.ship ++ [s]).toArray

theorem shipCells_len (f : Nat → Ship) : (shipCells f).length = 56 := rfl
theorem cells_size (g : G) (s : Value) : (cells g s).size = 59 := rfl
theorem cells_0 (g : G) (s : Value) : (cells g s)[0]? = some (.int .i64 g.frame) := rfl
theorem cells_1 (g : G) (s : Value) : (cells g s)[1]? = some (.int .u64 g.dice) := rfl
theorem cells_58 (g : G) (s : Value) : (cells g s)[58]? = some s := rfl
theorem cells_ship (g : G) (s : Value) (i k : Nat) (hi : i < 8) (hk : k < 7) : (cells g s)[2 + i * 7 + k]? = (g.ship i).cells[k]? := by
  match i, hi with
  | 0, _ => match k, hk with | 0, _ | 1, _ | 2, _ | 3, _ | 4, _ | 5, _ | 6, _ => rfl
  | 1, _ => match k, hk with | 0, _ | 1, _ | 2, _ | 3, _ | 4, _ | 5, _ | 6, _ => rfl
  | 2, _ => match k, hk with | 0, _ | 1, _ | 2, _ | 3, _ | 4, _ | 5, _ | 6, _ => rfl
  | 3, _ => match k, hk with | 0, _ | 1, _ | 2, _ | 3, _ | 4, _ | 5, _ | 6, _ => rfl
  | 4, _ => match k, hk with | 0, _ | 1, _ | 2, _ | 3, _ | 4, _ | 5, _ | 6, _ => rfl
  | 5, _ => match k, hk with | 0, _ | 1, _ | 2, _ | 3, _ | 4, _ | 5, _ | 6, _ => rfl
  | 6, _ => match k, hk with | 0, _ | 1, _ | 2, _ | 3, _ | 4, _ | 5, _ | 6, _ => rfl
  | 7, _ => match k, hk with | 0, _ | 1, _ | 2, _ | 3, _ | 4, _ | 5, _ | 6, _ => rfl

def inF (a : Int) : Prop := 0 ≤ a ∧ a < 16777216
def slow (a m : Int) : Prop := -m ≤ a ∧ a ≤ m
def okShip (s : Ship) : Prop := (s.on = true ∨ s = Ship.none) ∧ inF s.x ∧ inF s.y ∧ slow s.vx 524288 ∧ slow s.vy 524288 ∧ 0 ≤ s.cool ∧ s.cool ≤ 10 ∧ 0 ≤ s.score ∧ s.score ≤ 1073741824
def okShot (s : Shot) : Prop := 0 ≤ s.owner ∧ s.owner < 8 ∧ inF s.x ∧ inF s.y ∧ slow s.vx 393216 ∧ slow s.vy 393216 ∧ 1 ≤ s.left ∧ s.left ≤ 24
/-- Which games may be. -/
def ok (g : G) : Prop := 0 ≤ g.frame ∧ g.frame ≤ 1048576 ∧ g.shots.length ≤ 32 ∧ (∀ i, i < 8 → okShip (g.ship i)) ∧ (∀ i (h : i < g.shots.length), okShot g.shots[i])

/-- Numbers of their types. -/
def i32 (a : Int) : Prop := -2147483648 ≤ a ∧ a ≤ 2147483647
def i64 (a : Int) : Prop := -9223372036854775808 ≤ a ∧ a ≤ 9223372036854775807
def tyShip (s : Ship) : Prop := i32 s.x ∧ i32 s.y ∧ i32 s.vx ∧ i32 s.vy ∧ i64 s.cool ∧ i64 s.score
def tyShot (s : Shot) : Prop := i64 s.owner ∧ i32 s.x ∧ i32 s.y ∧ i32 s.vx ∧ i32 s.vy ∧ i64 s.left
def ty (g : G) : Prop := i64 g.frame ∧ (0 ≤ g.dice ∧ g.dice ≤ 18446744073709551615) ∧ (∀ i, i < 8 → tyShip (g.ship i)) ∧ (∀ i (h : i < g.shots.length), tyShot g.shots[i])
theorem okShip.ty {s : Ship} (h : okShip s) : tyShip s := by
  obtain ⟨_, h1, h2, h3, h4, h5⟩ := h; unfold inF slow at *; unfold tyShip i32 i64; omega
theorem okShot.ty {s : Shot} (h : okShot s) : tyShot s := by
  obtain ⟨h0, h0', h1, h2, h3, h4, h5⟩ := h; unfold inF slow at *; unfold tyShot i32 i64; omega

def shotCells (l : List Shot) : List Value := l.flatMap Shot.cells
theorem shotCells_len (l : List Shot) : (shotCells l).length = l.length * 6 := by
  induction l with
  | nil => rfl
  | cons s l ih => unfold shotCells at *; rw [List.flatMap_cons, List.length_append, ih, List.length_cons]; simp [Shot.cells]; omega
theorem shotCells_at (l : List Shot) (k j : Nat) (hk : k < l.length) (hj : j < 6) : (shotCells l)[k * 6 + j]? = l[k].cells[j]? := by
  induction l generalizing k with
  | nil => simp at hk
  | cons s l ih =>
    unfold shotCells at *
    rw [List.flatMap_cons]
    match k with
    | 0 => rw [List.getElem?_append_left (by simp [Shot.cells]; omega)]; simp
    | k + 1 =>
      rw [List.getElem?_append_right (by simp [Shot.cells]; omega)]
      have := ih k (by simpa using hk)
      rw [show (k + 1) * 6 + j - s.cells.length = k * 6 + j from by simp [Shot.cells]; omega, this]
      simp
def new (d : Int) : G := ⟨0, d, fun _ => Ship.none, []⟩
def placeX (d : Int) : Int := Dn.share (Dn.next d) 16777216
def placeY (d : Int) : Int := Dn.share (Dn.next (Dn.next d)) 16777216
def placeD (d : Int) : Int := Dn.next (Dn.next d)
def hits1 (f : Nat → Ship) (s : Shot) (i : Nat) : Bool := (f i).on && (decide ((i : Int) ≠ s.owner) && Gf.hits s.x s.y (f i).x (f i).y)
def hitFrom (f : Nat → Ship) (s : Shot) : Nat → Nat → Int
  | 0, _ => -1
  | n + 1, i => if hits1 f s i then (i : Int) else hitFrom f s n (i + 1)
def hit (f : Nat → Ship) (s : Shot) : Int := hitFrom f s 8 0
def nvx (p : In) (s : Ship) : Int := Gf.push s.vx (Gf.tame p.x)
def nvy (p : In) (s : Ship) : Int := Gf.push s.vy (Gf.tame p.y)
def nx (p : In) (s : Ship) : Int := Gf.move s.x (nvx p s)
def ny (p : In) (s : Ship) : Int := Gf.move s.y (nvy p s)
/-- Does it shoot, with so many shots there? -/
def shoots (p : In) (n : Nat) (s : Ship) : Bool := decide (s.cool ≤ 0) && (decide (p.b % 2 = 1) && decide (n < 32))
def moved (p : In) (n : Nat) (s : Ship) : Ship :=
  if s.on = true then ⟨true, nx p s, ny p s, nvx p s, nvy p s, if 0 < s.cool then s.cool - 1 else if shoots p n s = true then 10 else s.cool, s.score⟩ else s
def made (p : In) (n : Nat) (i : Nat) (s : Ship) : List Shot :=
  if s.on = true ∧ shoots p n s = true then [⟨i, nx p s, ny p s, Gf.aimx (Gf.tame p.x) (Gf.tame p.y), Gf.aimy (Gf.tame p.y), 24⟩] else []
/-- The ships and the shots, once k ships have gone. -/
def ph1 (ps : Nat → In) (g : G) : Nat → (Nat → Ship) × List Shot
  | 0 => (g.ship, g.shots)
  | k + 1 => (upd (ph1 ps g k).1 k (moved (ps k) (ph1 ps g k).2.length ((ph1 ps g k).1 k)), (ph1 ps g k).2 ++ made (ps k) (ph1 ps g k).2.length k ((ph1 ps g k).1 k))

structure St where
  dice : Int
  ship : Nat → Ship
  left : List Shot
def fly (s : Shot) : Shot := ⟨s.owner, Gf.move s.x s.vx, Gf.move s.y s.vy, s.vx, s.vy, s.left - 1⟩
def anew (d : Int) (f : Nat → Ship) (k : Nat) : Nat → Ship := upd f k ⟨true, placeX d, placeY d, 0, 0, 0, (f k).score⟩
def more (f : Nat → Ship) (o : Nat) : Nat → Ship := if (f o).on = true then upd f o { f o with score := min ((f o).score + 1) 1073741824 } else f
def shot1 (st : St) (s0 : Shot) : St :=
  if (fly s0).left = 0 then st
  else if hit st.ship (fly s0) < 0 then { st with left := st.left ++ [fly s0] }
  else ⟨placeD st.dice, more (anew st.dice st.ship (hit st.ship (fly s0)).toNat) s0.owner.toNat, st.left⟩
def ph2 (st : St) (l : List Shot) : St := l.foldl shot1 st
def step (ps : Nat → In) (g : G) : G :=
  let st := ph2 ⟨g.dice, (ph1 ps g 8).1, []⟩ (ph1 ps g 8).2
  ⟨g.frame + 1, st.dice, st.ship, st.left⟩

def Ship.eqB (s t : Ship) : Bool := s.on == t.on && (s.x == t.x && (s.y == t.y && (s.vx == t.vx && (s.vy == t.vy && (s.cool == t.cool && s.score == t.score)))))
def Shot.eqB (s t : Shot) : Bool := s.owner == t.owner && (s.x == t.x && (s.y == t.y && (s.vx == t.vx && (s.vy == t.vy && s.left == t.left))))
theorem Ship.eqB_iff {s t : Ship} : s.eqB t = true ↔ s = t := by
  obtain ⟨a1, a2, a3, a4, a5, a6, a7⟩ := s
  obtain ⟨b1, b2, b3, b4, b5, b6, b7⟩ := t
  simp [Ship.eqB]
theorem Shot.eqB_iff {s t : Shot} : s.eqB t = true ↔ s = t := by
  obtain ⟨a1, a2, a3, a4, a5, a6⟩ := s
  obtain ⟨b1, b2, b3, b4, b5, b6⟩ := t
  simp [Shot.eqB]
def shipsEq (f g : Nat → Ship) : Bool := (List.range 8).all fun i => (f i).eqB (g i)
theorem shipsEq_iff {f g : Nat → Ship} : shipsEq f g = true ↔ ∀ i, i < 8 → f i = g i := by
  unfold shipsEq; rw [List.all_eq_true]
  exact ⟨fun h i hi => Ship.eqB_iff.1 (h i (by simpa using hi)), fun h i hi => Ship.eqB_iff.2 (h i (by simpa using hi))⟩
/-- Two games in all parts: of the ships, the eight. -/
def Eq (g h : G) : Prop := g.frame = h.frame ∧ g.dice = h.dice ∧ (∀ i, i < 8 → g.ship i = h.ship i) ∧ g.shots = h.shots
theorem Eq.refl (g : G) : Eq g g := ⟨rfl, rfl, fun _ _ => rfl, rfl⟩
theorem shipCells_list (f : Nat → Ship) (i : Nat) (hi : i < 8) : ((shipCells f).drop (i * 7)).take 7 = (f i).cells := by
  match i, hi with
  | 0, _ => rfl
  | 1, _ => rfl
  | 2, _ => rfl
  | 3, _ => rfl
  | 4, _ => rfl
  | 5, _ => rfl
  | 6, _ => rfl
  | 7, _ => rfl
theorem cells_shipj (g : G) (s : Value) (j : Nat) (hj : j < 56) : (cells g s)[2 + j]? = (shipCells g.ship)[j]? := by
  unfold cells
  rw [List.getElem?_toArray, List.append_assoc, List.getElem?_append_right (by simp), List.getElem?_append_left (by rw [shipCells_len]; simp; omega)]
  simp

def tyIn (p : In) : Prop := (-128 ≤ p.x ∧ p.x ≤ 127) ∧ (-128 ≤ p.y ∧ p.y ≤ 127) ∧ (0 ≤ p.b ∧ p.b ≤ 255)
def insCells (f : Nat → In) : List Value := (f 0).cells ++ ((f 1).cells ++ ((f 2).cells ++ ((f 3).cells ++ ((f 4).cells ++ ((f 5).cells ++ ((f 6).cells ++ (f 7).cells))))))
theorem upd_same (f : Nat → Ship) (i : Nat) (s : Ship) : upd f i s i = s := by unfold upd; rw [if_pos rfl]
theorem upd_other (f : Nat → Ship) {i j : Nat} (s : Ship) (h : j ≠ i) : upd f i s j = f j := by unfold upd; rw [if_neg h]
/-- What holds of ships and shots on the way. -/
structure Way (f : Nat → Ship) (l : List Shot) : Prop where
  ships : ∀ i, i < 8 → okShip (f i)
  shots : ∀ t ∈ l, okShot t
  len : l.length ≤ 32
theorem ok.way {g : G} (h : ok g) : Way g.ship g.shots := ⟨h.2.2.2.1, fun t ht => by
  obtain ⟨i, hi, rfl⟩ := List.getElem_of_mem ht; exact h.2.2.2.2 i hi, h.2.2.1⟩
theorem upd_self (f : Nat → Ship) (k : Nat) : upd f k (f k) = f := funext fun j => by
  unfold upd; split
  · rename_i h; rw [h]
  · rfl
end Gm
namespace Go.Proofs.Ytghomofakpjglaa
open Go.RowKit
set_option linter.unusedVariables false

set_option maxHeartbeats 400000 in
theorem refin_any (a : Int) (wa : -2147483648 ≤ a ∧ a ≤ 2147483647) (w : World) :
    Calls Try.prog 74 #[.int .i32 a] w fun e w' => e = .returned (.bool (decide (0 ≤ a) && decide (a < 16777216))) ∧ w = w' := by
  go_enter Try.func74, Try.ntmps74
  go_wp2
  all_goals
    go_ret
    exact ⟨ret_bool (by rw [Bool.eq_iff_iff]; simp; omega), rfl⟩
set_option maxHeartbeats 400000 in
theorem refslow_any (a m : Int) (wa : -2147483648 ≤ a ∧ a ≤ 2147483647) (wm : 0 ≤ m ∧ m ≤ 2147483647) (w : World) :
    Calls Try.prog 75 #[.int .i32 a, .int .i32 m] w fun e w' => e = .returned (.bool (decide (-m ≤ a) && decide (a ≤ m))) ∧ w = w' := by
  go_enter Try.func75, Try.ntmps75
  go_wp2
  all_goals
    go_ret
    exact ⟨ret_bool (by rw [Bool.eq_iff_iff]; simp; omega), rfl⟩

theorem cells_at {w : World} {B k : Nat} {g : Gm.G} {s : Value} (hc : ∀ j, w.cell? ⟨B, j, none⟩ = (Gm.cells g s)[j]?) (hk : k < 8) (j : Nat) (hj : j < 7) :
    w.cell? ⟨B, 2 + k * 7 + j, none⟩ = (g.ship k).cells[j]? := (hc _).trans (Gm.cells_ship g s k j hk hj)


theorem add_lit' (a : Addr) (j : Nat) (h : 0 < j) : a.add j = ⟨a.block, a.off + j, none⟩ := by unfold Addr.add; rw [if_neg (by omega)]
/-- The six cells of a shot, as a walk spells them. -/
theorem shots_at {w : World} {B n : Nat} {A : Option Addr} {l : List Gm.Shot} (h : Lies w B 6 A n (Gm.shotCells l)) (hn : n = l.length) (k : Nat) (hk : k < l.length) :
    ∃ ad, A = some ad ∧ ad.block < B ∧ w.cell? (ad.add (k * 6)) = some (.int .i64 l[k].owner) ∧ w.cell? ⟨(ad.add (k * 6)).block, (ad.add (k * 6)).off + 1, none⟩ = some (.int .i32 l[k].x) ∧
      w.cell? ⟨(ad.add (k * 6)).block, (ad.add (k * 6)).off + 2, none⟩ = some (.int .i32 l[k].y) ∧ w.cell? ⟨(ad.add (k * 6)).block, (ad.add (k * 6)).off + 3, none⟩ = some (.int .i32 l[k].vx) ∧
      w.cell? ⟨(ad.add (k * 6)).block, (ad.add (k * 6)).off + 4, none⟩ = some (.int .i32 l[k].vy) ∧ w.cell? ⟨(ad.add (k * 6)).block, (ad.add (k * 6)).off + 5, none⟩ = some (.int .i64 l[k].left) := by
  obtain ⟨ad, e, hb⟩ := h.start (by omega)
  have hc := h.cell ad e (by omega)
  have hj : ∀ j v, j < 6 → l[k].cells[j]? = some v → w.cell? ((ad.add (k * 6)).add j) = some v := fun j v hj hv => by
    rw [add_twice]
    exact hc _ _ ((Gm.shotCells_at l k j hk hj).trans hv)
  refine ⟨ad, e, hb, ?_, ?_, ?_, ?_, ?_, ?_⟩
  · have := hj 0 _ (by omega) rfl; rwa [show (ad.add (k * 6)).add 0 = ad.add (k * 6) from by unfold Addr.add; rfl] at this
  · have := hj 1 _ (by omega) rfl; rwa [add_lit' _ 1 (by omega)] at this
  · have := hj 2 _ (by omega) rfl; rwa [add_lit' _ 2 (by omega)] at this
  · have := hj 3 _ (by omega) rfl; rwa [add_lit' _ 3 (by omega)] at this
  · have := hj 4 _ (by omega) rfl; rwa [add_lit' _ 4 (by omega)] at this
  · have := hj 5 _ (by omega) rfl; rwa [add_lit' _ 5 (by omega)] at this

end Go.Proofs.Ytghomofakpjglaa
namespace Go.Proofs.Ytghomofakpjglaa
open Go.RowKit
set_option linter.unusedVariables false

section
variable {w : World} {B : Nat} {g : Gm.G} {s : Value}
theorem set7_list (a b s : Value) (f : Nat → Gm.Ship) (i : Nat) (hi : i < 8) (t : Gm.Ship) :
    (((((((([a, b] ++ Gm.shipCells f ++ [s]).set (2 + i * 7) (.bool t.on)).set (2 + i * 7 + 1) (.int .i32 t.x)).set (2 + i * 7 + 2) (.int .i32 t.y)).set (2 + i * 7 + 3) (.int .i32 t.vx)).set (2 + i * 7 + 4) (.int .i32 t.vy)).set (2 + i * 7 + 5) (.int .i64 t.cool)).set (2 + i * 7 + 6) (.int .i64 t.score)) = [a, b] ++ Gm.shipCells (Gm.upd f i t) ++ [s] := by
  match i, hi with
  | 0, _ => rfl
  | 1, _ => rfl
  | 2, _ => rfl
  | 3, _ => rfl
  | 4, _ => rfl
  | 5, _ => rfl
  | 6, _ => rfl
  | 7, _ => rfl
theorem set7 (g : Gm.G) (s : Value) (i : Nat) (hi : i < 8) (t : Gm.Ship) :
    ((((((((Gm.cells g s).setIfInBounds (2 + i * 7) (.bool t.on)).setIfInBounds (2 + i * 7 + 1) (.int .i32 t.x)).setIfInBounds (2 + i * 7 + 2) (.int .i32 t.y)).setIfInBounds (2 + i * 7 + 3) (.int .i32 t.vx)).setIfInBounds (2 + i * 7 + 4) (.int .i32 t.vy)).setIfInBounds (2 + i * 7 + 5) (.int .i64 t.cool)).setIfInBounds (2 + i * 7 + 6) (.int .i64 t.score)) = Gm.cells { g with ship := Gm.upd g.ship i t } s := by
  unfold Gm.cells
  simp only [List.setIfInBounds_toArray]
  rw [set7_list _ _ _ _ _ hi]
end

theorem game_info : (Try.prog.info? 28).map (·.size) = some 59 := by kernel_rfl
theorem cells_one (g : Gm.G) (s : Value) (h : s.oneCell' = true) : (Gm.cells g s).all (·.oneCell') = true := by
  refine Array.all_eq_true_iff_forall_mem.2 fun v hv => ?_
  have hv : v ∈ [Value.int .i64 g.frame, Value.int .u64 g.dice] ++ Gm.shipCells g.ship ++ [s] := by simpa [Gm.cells] using hv
  simp only [Gm.shipCells, Gm.Ship.cells, List.mem_append, List.mem_cons, List.not_mem_nil, or_false] at hv
  rcases hv with ((rfl | rfl) | hv) | rfl
  · rfl
  · rfl
  · rcases hv with hv | hv | hv | hv | hv | hv | hv | hv <;> (rcases hv with rfl | rfl | rfl | rfl | rfl | rfl | rfl <;> rfl)
  · exact h

def zeroG : Gm.G := ⟨0, 0, fun _ => Gm.Ship.none, []⟩
theorem game_zero : (Try.prog.info? 28).map (·.zero) = some (some (.agg (Gm.cells zeroG (.slice none 0 0)))) := by kernel_rfl
theorem built_new (d : Int) : Try.prog.built 28 [(1, .int .u64 d)] = some (Gm.cells (Gm.new d) (.slice none 0 0)) := by kernel_rfl
section
variable {ops : Array Oper} {rest : List Oper} {o : Oper} {a : Act} {w : World} {Q : Exit → Act → World → Prop}
/-- A game's load, a game's store, met by their types alone: what they want. -/
def LoadGame (ops : Array Oper) (Q : Exit → Act → World → Prop) (rest : List Oper) (dst : Option Tmp) (p : Value) (a : Act) (w : World) : Prop :=
  ∃ (B : Nat) (g : Gm.G) (s : Value), p = .pointer (some ⟨B, 0, none⟩) ∧ Box w B 28 (Gm.cells g s) ∧ wpList Try.prog ops Q rest (a.put dst (.agg (Gm.cells g s))) w
theorem LoadGame.mk {dst : Option Tmp} {p : Value} {B : Nat} {g : Gm.G} {s : Value} (hp : p = .pointer (some ⟨B, 0, none⟩)) (hB : Box w B 28 (Gm.cells g s)) (h : wpList Try.prog ops Q rest (a.put dst (.agg (Gm.cells g s))) w) : LoadGame ops Q rest dst p a w := ⟨B, g, s, hp, hB, h⟩
def StoreGame (ops : Array Oper) (Q : Exit → Act → World → Prop) (rest : List Oper) (dst : Option Tmp) (p v : Value) (a : Act) (w : World) : Prop :=
  ∃ (B : Nat) (g : Gm.G) (s : Value) (g' : Gm.G) (s' : Value), p = .pointer (some ⟨B, 0, none⟩) ∧ v = .agg (Gm.cells g s) ∧ s.oneCell' = true ∧ Box w B 28 (Gm.cells g' s') ∧ wpList Try.prog ops Q rest (a.put dst undef) (w.setRow B (Gm.cells g s))
theorem StoreGame.mk {dst : Option Tmp} {p v : Value} {B : Nat} {g g' : Gm.G} {s s' : Value} (hp : p = .pointer (some ⟨B, 0, none⟩)) (hv : v = .agg (Gm.cells g s)) (hs : s.oneCell' = true) (hB : Box w B 28 (Gm.cells g' s')) (h : wpList Try.prog ops Q rest (a.put dst undef) (w.setRow B (Gm.cells g s))) : StoreGame ops Q rest dst p v a w := ⟨B, g, s, g', s', hp, hv, hs, hB, h⟩
end
end Go.Proofs.Ytghomofakpjglaa
namespace Go.Proofs.Ytghomofakpjglaa
open Go.RowKit
set_option linter.unusedVariables false

theorem shot_info : (Try.prog.info? 88).map (fun i => (i.zero, i.size, i.bytes)) = some (some (.agg #[.int .i64 0, .int .i32 0, .int .i32 0, .int .i32 0, .int .i32 0, .int .i64 0]), 6, 32) := by kernel_rfl
theorem shotCells_one (l : List Gm.Shot) : ∀ u ∈ Gm.shotCells l, u.oneCell' = true := by
  intro u hu
  obtain ⟨s, _, hs⟩ := List.mem_flatMap.1 hu
  simp only [Gm.Shot.cells, List.mem_cons, List.not_mem_nil, or_false] at hs
  rcases hs with rfl | rfl | rfl | rfl | rfl | rfl <;> rfl

/-- The seven stores of a ship. -/
def stored (w : World) (B k : Nat) (t : Gm.Ship) : World :=
  ((((((w.setCell ⟨B, 2 + k * 7, none⟩ (.bool t.on)).setCell ⟨B, 2 + k * 7 + 1, none⟩ (.int .i32 t.x)).setCell ⟨B, 2 + k * 7 + 2, none⟩ (.int .i32 t.y)).setCell ⟨B, 2 + k * 7 + 3, none⟩ (.int .i32 t.vx)).setCell ⟨B, 2 + k * 7 + 4, none⟩ (.int .i32 t.vy)).setCell ⟨B, 2 + k * 7 + 5, none⟩ (.int .i64 t.cool)).setCell ⟨B, 2 + k * 7 + 6, none⟩ (.int .i64 t.score)
theorem stored_far {w : World} {B B' k : Nat} {t : TypeId} {cs : Array Value} (h : Box w B' t cs) (hne : B' ≠ B) (s : Gm.Ship) : Box (stored w B k s) B' t cs :=
  ((((((h.far hne _).far hne _).far hne _).far hne _).far hne _).far hne _).far hne _
theorem stored_below {w0 w : World} {C B k : Nat} (h : Below C w0 w) (hC : C ≤ B) (s : Gm.Ship) : Below C w0 (stored w B k s) :=
  ((((((h.setCell hC _).setCell hC _).setCell hC _).setCell hC _).setCell hC _).setCell hC _).setCell hC _
theorem stored_own {w : World} {base : Nat} {e : TypeId} {size n B k : Nat} {v : Value} {xs : List Value} (h : w.ownsRow base e size v n xs) (hne : v.ownBlock ≠ some B) (s : Gm.Ship) : (stored w B k s).ownsRow base e size v n xs :=
  ownsRow_setCell_other (ownsRow_setCell_other (ownsRow_setCell_other (ownsRow_setCell_other (ownsRow_setCell_other (ownsRow_setCell_other (ownsRow_setCell_other h hne _) hne _) hne _) hne _) hne _) hne _) hne _
end Go.Proofs.Ytghomofakpjglaa
namespace Go.Proofs.Ytghomofakpjglaa
open Go.RowKit Go.Shelf
set_option linter.unusedVariables false

/-- The bytes of a ship. -/
def Im.ship (s : Gm.Ship) : List Int :=
  if s.on = true then Im.bytesOf 1 1 ++ (Im.flight (fun k => match k with | 0 => s.x | 1 => s.y | 2 => s.vx | _ => s.vy) 4 ++ (Im.bytesOf 1 s.cool ++ Im.bytesOf 4 s.score)) else Im.bytesOf 1 0

set_option maxRecDepth 100000 in
set_option maxHeartbeats 2000000 in
theorem layship_off (P o : Nat) (t : TypeId) (cs : Array Value) (bs : List Int) (b Bb Bp : Nat) (w : World) (hbB : b ≤ Bb) (h : Wr b Bb Bp bs w) (hl : bs.length + 1 ≤ 65536) (hP : Box w P t cs) (ho : cs[o]? = some (.bool false)) (h1 : t ≠ 36) (h2 : t ≠ 5) (h3 : t ≠ 82) :
    Calls Try.prog 69 #[.func (.func 73) #[] #[.pointer (some ⟨Bp, 0, none⟩)], .pointer (some ⟨P, o, none⟩)] w fun e w' => e = .returned (.tuple #[]) ∧ Wr b Bb Bp (bs ++ Im.bytesOf 1 0) w' ∧ Wrote b Bb w w' := by
  have k0 := hP.cell o
  rw [ho] at k0
  have ltP := hP.lt
  have HL := Lib.hid (Box.made w 3 #[.int .i64 0])
  have HPA := Lib.hid (hP.alloc (.cells #[.int .i64 0] 3))
  have HA := Lib.hid (h.alloc (.cells #[.int .i64 0] 3))
  have WA := Lib.hid ((Wrote.refl hbB w).alloc (.cells #[.int .i64 0] 3))
  have c1 := Lib.hid (layint_w 1 1 rfl 0 w.heap.size 0 3 #[.int .i64 0] bs b Bb Bp _ (by decide) (by omega) hbB HA.out (by omega) HL.out rfl (by decide) (by decide) (by decide))
  rw [show IntKind.u64.wrap 0 = 0 from rfl] at c1
  have hvar := Lib.hid HA.out.isvar
  have HO := Lib.hid ho
  clear h hP ho
  go_enter Try.func69, Try.ntmps69
  go_wp2_with (first | (go_at_call 37; ((with_reducible refine (need_yes _ _).mono ?_); rintro e wn ⟨rfl, rfl⟩)) | (go_at_call 67; ((with_reducible refine (c1.out).mono ?_); rintro e w1 ⟨rfl, hI1, hK1⟩; have L1 := HL.out.wrote' hK1 hvar.out (by decide) (by decide); have l1 := L1.cell 0; have P1 := Lib.hid (HPA.out.wrote' hK1 hvar.out h1 h2); have p1 := P1.out.cell o; rw [HO.out] at p1; have f1 := P1.out.free o; have I1 := Lib.hid hI1; have K1 := Lib.hid (WA.out.trans hK1); clear hI1 hK1 L1 k0)))
  refine bodyPost_ret (results_none rfl _ _ _) rfl ?_
  exact ⟨rfl, I1.out.off (p := ⟨P, o, none⟩) P1.out h3 h1 h2 _, K1.out.noop P1.out HO.out⟩

set_option maxRecDepth 100000 in
set_option maxHeartbeats 4000000 in
theorem layship_on (x y vx vy cool score : Int) (P o : Nat) (t : TypeId) (cs : Array Value) (bs : List Int) (b Bb Bp : Nat) (w : World) (hbB : b ≤ Bb) (h : Wr b Bb Bp bs w) (hl : bs.length + 22 ≤ 65536) (hP : Box w P t cs)
    (o0 : cs[o]? = some (.bool true)) (o1 : cs[o + 1]? = some (.int .i32 x)) (o2 : cs[o + 2]? = some (.int .i32 y)) (o3 : cs[o + 3]? = some (.int .i32 vx)) (o4 : cs[o + 4]? = some (.int .i32 vy)) (o5 : cs[o + 5]? = some (.int .i64 cool)) (o6 : cs[o + 6]? = some (.int .i64 score))
    (wx : -2147483648 ≤ x ∧ x ≤ 2147483647) (wy : -2147483648 ≤ y ∧ y ≤ 2147483647) (wvx : -2147483648 ≤ vx ∧ vx ≤ 2147483647) (wvy : -2147483648 ≤ vy ∧ vy ≤ 2147483647) (wc : 0 ≤ cool ∧ cool ≤ 10) (ws : 0 ≤ score ∧ score ≤ 1073741824) (h1 : t ≠ 36) (h2 : t ≠ 5) (h3 : t ≠ 82) :
    Calls Try.prog 69 #[.func (.func 73) #[] #[.pointer (some ⟨Bp, 0, none⟩)], .pointer (some ⟨P, o, none⟩)] w fun e w' => e = .returned (.tuple #[]) ∧ Wr b Bb Bp (bs ++ Im.ship ⟨true, x, y, vx, vy, cool, score⟩) w' ∧ Wrote b Bb w w' := by
  have k0 := hP.cell o
  rw [o0] at k0
  have ltP := hP.lt
  have HL := Lib.hid (Box.made w 3 #[.int .i64 1])
  have HPA := Lib.hid (hP.alloc (.cells #[.int .i64 1] 3))
  have HA := Lib.hid (h.alloc (.cells #[.int .i64 1] 3))
  have WA := Lib.hid ((Wrote.refl hbB w).alloc (.cells #[.int .i64 1] 3))
  have c1 := Lib.hid (layint_w 1 1 rfl 1 w.heap.size 0 3 #[.int .i64 1] bs b Bb Bp _ (by decide) (by omega) hbB HA.out (by omega) HL.out rfl (by decide) (by decide) (by decide))
  rw [show IntKind.u64.wrap 1 = 1 from rfl] at c1
  have hvar := Lib.hid HA.out.isvar
  have HO := Lib.hid o0
  clear h hP o0
  go_enter Try.func69, Try.ntmps69
  go_upto_region 6 with (first | (go_at_call 37; ((with_reducible refine (need_yes _ _).mono ?_); rintro e wn ⟨rfl, rfl⟩)) | (go_at_call 67; ((with_reducible refine (c1.out).mono ?_); rintro e w1 ⟨rfl, hI1, hK1⟩; have L1 := HL.out.wrote' hK1 hvar.out (by decide) (by decide); have l1 := L1.cell 0; have P1 := Lib.hid (HPA.out.wrote' hK1 hvar.out h1 h2); have p1 := P1.out.cell o; rw [HO.out] at p1; have f1 := P1.out.free o; have I1 := Lib.hid hI1; have K1 := Lib.hid (WA.out.trans hK1); clear hI1 hK1 L1 k0)))
  obtain ⟨U, hU⟩ : ∃ U, U = w1.setCell ⟨P, o, none⟩ (.bool true) := ⟨_, rfl⟩
  have IU : Wr b Bb Bp (bs ++ Im.bytesOf 1 1) U := by rw [hU]; exact I1.out.off (p := ⟨P, o, none⟩) P1.out h3 h1 h2 _
  have KU : Wrote b Bb w U := by rw [hU]; exact K1.out.noop P1.out HO.out
  have PU : Box U P t cs := ⟨by rw [hU, setCell_noop P1.out HO.out]; exact P1.out.is⟩
  rw [← hU]
  have u0 := PU.cell o
  rw [HO.out] at u0
  have IU := Lib.hid IU
  have KU := Lib.hid KU
  have PU := Lib.hid PU
  clear hU I1 K1 P1 p1 f1 l1 HA HL HPA WA hvar c1
  go_upto_region 7 with fail
  have cf := fun X (hX : Wr b Bb Bp (bs ++ Im.bytesOf 1 1) X) (hB : Box X P t cs) Bq hq => Lib.hid (layflight_w (fun k => match k with | 0 => x | 1 => y | 2 => vx | _ => vy) (fun k => o + 1 + k) P Bq t cs (bs ++ Im.bytesOf 1 1) b Bb Bp X (fun k hk => by
    match k, hk with
    | 0, _ => exact wx
    | 1, _ => exact wy
    | 2, _ => exact wvx
    | 3, _ => exact wvy) hbB hX (by rw [List.length_append, Im.bytesOf_len]; omega) hB (fun k hk => by
    match k, hk with
    | 0, _ => exact o1
    | 1, _ => exact o2
    | 2, _ => exact o3
    | 3, _ => exact o4) h1 h2 h3 hq 4)
  refine Rp.wp_region_lex (by kernel_rfl) [] (by kernel_rfl) (· = U.drew) (fun _ => True) (fun _ => True) rfl (fun W hW => ⟨trivial, trivial⟩) ?_
  repeat (first
    | (apply Rp.lex_free rfl rfl; focus (intro _; go_simp; first | done | rfl))
    | (apply Rp.lex_look rfl rfl rfl rfl; focus (intro W hW; clear hW; go_simp; first | done | rfl)))
  refine Rp.lex_make rfl (W' := U.drew.alloc (.cells #[.pointer (some ⟨P, o + 1, none⟩), .pointer (some ⟨P, o + 2, none⟩), .pointer (some ⟨P, o + 3, none⟩), .pointer (some ⟨P, o + 4, none⟩)] 139)) (v := .slice (some ⟨U.drew.heap.size, 0, none⟩) 4 4) ?_ ⟨trivial, trivial⟩ ?_
  focus (go_simp; first | done | rfl)
  refine Rp.lex_call (C' := fun Z => Wr b Bb Bp (bs ++ Im.bytesOf 1 1 ++ Im.flight (fun k => match k with | 0 => x | 1 => y | 2 => vx | _ => vy) 4) Z ∧ Wrote b Bb w Z ∧ Box Z P t cs) (v := .tuple #[]) (f := 89) (args := #[.func (.func 73) #[] #[.pointer (some ⟨Bp, 0, none⟩)], .slice (some ⟨U.drew.heap.size, 0, none⟩) 4 4]) rfl ?_ ?_ ?_ ?_
  · intro Z hZ; clear hZ; go_simp; first | done | rfl | exact ⟨rfl, rfl⟩
  · intro Z hZ
    subst hZ
    have hW := (IU.out.call (one_below' U)).alloc (.cells #[.pointer (some ⟨P, o + 1, none⟩), .pointer (some ⟨P, o + 2, none⟩), .pointer (some ⟨P, o + 3, none⟩), .pointer (some ⟨P, o + 4, none⟩)] 139)
    refine (cf _ hW (PU.out.drew.alloc _) U.drew.heap.size (Box.made _ _ _)).out.mono ?_
    rintro e Z2 ⟨rfl, hI2, hK2⟩
    exact ⟨rfl, hI2, (KU.out.drew.alloc _).trans hK2, (PU.out.drew.alloc _).wrote' hK2 hW.isvar h1 h2⟩
  · exact fun Z hZ => ⟨trivial, trivial⟩
  refine Rp.lex_end fun W3 hW3 => ?_
  obtain ⟨hI3, hK3, hP3⟩ := hW3
  have P3 := Lib.hid hP3
  have p3 := P3.out.cell
  have IV3 := Lib.hid hI3.isvar
  have K3 := Lib.hid hK3
  have hwc : IntKind.u64.wrap cool = cool := by rw [IntKind.wrap_u64]; omega
  have hws : IntKind.u64.wrap score = score := by rw [IntKind.wrap_u64]; omega
  have lf := Im.flight_len (fun k => match k with | 0 => x | 1 => y | 2 => vx | _ => vy) 4
  have c5 := Lib.hid (layint_w 1 1 rfl cool P (o + 5) t cs _ b Bb Bp W3 (by decide) (by omega) hbB hI3 (by rw [List.length_append, List.length_append, Im.bytesOf_len, lf]; omega) hP3 o5 h1 h2 h3)
  rw [hwc] at c5
  have c6 := fun X (hX : Wr b Bb Bp (bs ++ Im.bytesOf 1 1 ++ Im.flight (fun k => match k with | 0 => x | 1 => y | 2 => vx | _ => vy) 4 ++ Im.bytesOf 1 cool) X) (hB : Box X P t cs) => Lib.hid (layint_w 4 4 rfl score P (o + 6) t cs _ b Bb Bp X (by decide) (by omega) hbB hX (by rw [List.length_append, List.length_append, List.length_append, Im.bytesOf_len, Im.bytesOf_len, lf]; omega) hB o6 h1 h2 h3)
  rw [hws] at c6
  have hsh : Hid (bs ++ Im.bytesOf 1 1 ++ Im.flight (fun k => match k with | 0 => x | 1 => y | 2 => vx | _ => vy) 4 ++ Im.bytesOf 1 cool ++ Im.bytesOf 4 score = bs ++ Im.ship ⟨true, x, y, vx, vy, cool, score⟩) := Lib.hid (by simp [Im.ship])
  generalize Im.flight (fun k => match k with | 0 => x | 1 => y | 2 => vx | _ => vy) 4 = FL at *
  clear hI3 hK3 hP3 cf IU KU PU hwc hws lf u0 o1 o2 o3 o4 o5 o6
  go_wp2_with (first | (go_at_call 67; ((with_reducible refine (c5.out).mono ?_); rintro e w4 ⟨rfl, hI, hK⟩; have P4 := Lib.hid (P3.out.wrote' hK IV3.out h1 h2); have p4 := P4.out.cell; have IV4 := Lib.hid hI.isvar; have I4 := Lib.hid hI; have K4 := Lib.hid (K3.out.trans hK); clear hI hK)) | (go_at_call 67; ((with_reducible refine ((c6 _ I4.out P4.out).out).mono ?_); rintro e w5 ⟨rfl, hI, hK⟩; have P5 := Lib.hid (P4.out.wrote' hK IV4.out h1 h2); have p5 := P5.out.cell; have IV5 := Lib.hid hI.isvar; have I5 := Lib.hid hI; have K5 := Lib.hid (K4.out.trans hK); clear hI hK)))
  go_end0
  exact ⟨rfl, by rw [← hsh.out]; exact I5.out, K5.out⟩
end Go.Proofs.Ytghomofakpjglaa
namespace Go.Proofs.Ytghomofakpjglaa
open Go.RowKit Go.Shelf
set_option linter.unusedVariables false

def Im.shot (s : Gm.Shot) : List Int := Im.bytesOf 1 s.owner ++ (Im.flight (fun k => match k with | 0 => s.x | 1 => s.y | 2 => s.vx | _ => s.vy) 4 ++ Im.bytesOf 1 s.left)
def Im.shots (l : List Gm.Shot) : List Int := l.flatMap Im.shot
theorem Im.shot_len (s : Gm.Shot) : (Im.shot s).length = 18 := by unfold Im.shot; rw [List.length_append, List.length_append, Im.bytesOf_len, Im.bytesOf_len, Im.flight_len]
theorem Im.shots_len (l : List Gm.Shot) : (Im.shots l).length = 18 * l.length := by
  induction l with
  | nil => rfl
  | cons s l ih => unfold Im.shots at *; rw [List.flatMap_cons, List.length_append, ih, Im.shot_len, List.length_cons]; omega
theorem Im.shots_snoc (l : List Gm.Shot) (k : Nat) (h : k < l.length) : Im.shots (l.take (k + 1)) = Im.shots (l.take k) ++ Im.shot l[k] := by
  unfold Im.shots
  rw [List.take_succ_eq_append_getElem h, List.flatMap_append]
  simp
end Go.Proofs.Ytghomofakpjglaa
namespace Im
open Go
theorem wrap_i8 (n : Int) : IntKind.i8.wrap n = (n + 128) % 256 - 128 := by
  simp [IntKind.wrap, IntKind.bits, IntKind.signed]
  try omega
end Im
namespace Go.Proofs.Ytghomofakpjglaa
open Go.RowKit Go.Shelf
set_option linter.unusedVariables false

end Go.Proofs.Ytghomofakpjglaa
namespace Im
open Go
def IsBytes (bs : List Int) : Prop := ∀ x ∈ bs, 0 ≤ x ∧ x ≤ 255
theorem IsBytes.nil : IsBytes [] := fun _ h => by cases h
theorem IsBytes.drop {bs : List Int} (h : IsBytes bs) (n : Nat) : IsBytes (bs.drop n) := fun x hx => h x (List.mem_of_mem_drop hx)
theorem IsBytes.take {bs : List Int} (h : IsBytes bs) (n : Nat) : IsBytes (bs.take n) := fun x hx => h x (List.mem_of_mem_take hx)
theorem IsBytes.app {bs cs : List Int} (h : IsBytes bs) (k : IsBytes cs) : IsBytes (bs ++ cs) := fun x hx => by
  rcases List.mem_append.1 hx with hx | hx
  · exact h x hx
  · exact k x hx
theorem IsBytes.get {bs : List Int} (h : IsBytes bs) (k : Nat) : 0 ≤ bs.getD k 0 ∧ bs.getD k 0 ≤ 255 := by
  by_cases hk : k < bs.length
  · have e : bs.getD k 0 = bs[k] := by simp [List.getD, hk]
    rw [e]
    exact h _ (List.getElem_mem hk)
  · have e : bs.getD k 0 = 0 := by simp [List.getD, List.getElem?_eq_none (show bs.length ≤ k by omega)]
    rw [e]
    omega
theorem bytesOf_bytes : ∀ (n : Nat) (v : Int), IsBytes (bytesOf n v)
  | 0, _ => IsBytes.nil
  | n + 1, v => by
    unfold bytesOf
    refine (bytesOf_bytes n v).app fun x hx => ?_
    obtain rfl := List.mem_singleton.1 hx
    omega
theorem val_congr {f g : Nat → Int} : ∀ n, (∀ k, k < n → f k = g k) → val f n = val g n
  | 0, _ => rfl
  | n + 1, h => by unfold val; rw [val_congr n fun k hk => h k (by omega), h n (by omega)]
theorem byte_val (f : Nat → Int) (h : ∀ k, 0 ≤ f k ∧ f k ≤ 255) : ∀ n k, k < n → byte (val f n) k = f k
  | 0, k, hk => by omega
  | n + 1, k, hk => by
    unfold val byte
    have hf := h k
    by_cases e : k = n
    · subst e
      have hv := val_lt f h k
      have hp : (0 : Int) < 2 ^ (8 * k) := Int.pow_pos (by decide)
      generalize (2 : Int) ^ (8 * k) = p at *
      rw [Int.add_mul_ediv_right _ _ (by omega), Int.ediv_eq_zero_of_lt hv.1 hv.2]
      omega
    · have ih := byte_val f h n k (by omega)
      unfold byte at ih
      have hp : (0 : Int) < 2 ^ (8 * k) := Int.pow_pos (by decide)
      have ep : (2 : Int) ^ (8 * n) = 256 * 2 ^ (8 * (n - k - 1)) * 2 ^ (8 * k) := by
        rw [Int.mul_assoc, ← Int.pow_add, show (256 : Int) = 2 ^ 8 from rfl, ← Int.pow_add]
        congr 1
        omega
      rw [ep]
      generalize (2 : Int) ^ (8 * k) = p at *
      generalize (2 : Int) ^ (8 * (n - k - 1)) = q at *
      rw [show f n * (256 * q * p) = (f n * q * 256) * p by grind, Int.add_mul_ediv_right _ _ (by omega), Int.add_mul_emod_self_right]
      exact ih
/-- A number of n bytes is read, if they are there. -/
def rdn (n : Nat) (bs : List Int) : Option (Int × List Int) := if n ≤ bs.length then some (val (fun k => bs.getD k 0) n, bs.drop n) else none
theorem rdn_bytes (n : Nat) (v : Int) (rest : List Int) : rdn n (bytesOf n v ++ rest) = some (v % 2 ^ (8 * n), rest) := by
  unfold rdn
  rw [if_pos (by rw [List.length_append, bytesOf_len]; omega)]
  congr 2
  · rw [← val_byte v n]
    refine val_congr n fun k hk => ?_
    have e : (bytesOf n v ++ rest)[k]? = some (byte v k) := by rw [List.getElem?_append_left (by rw [bytesOf_len]; exact hk), bytesOf_at? n v k hk]
    simp [List.getD, e]
  · have := bytesOf_len n v
    simp [this]
theorem rdn_inv {n : Nat} {bs : List Int} {y : Int} {rest : List Int} (h : IsBytes bs) (e : rdn n bs = some (y, rest)) : bs = bytesOf n y ++ rest ∧ 0 ≤ y ∧ y < 2 ^ (8 * n) ∧ IsBytes rest := by
  unfold rdn at e
  by_cases hl : n ≤ bs.length
  · rw [if_pos hl] at e
    injection e with e
    injection e with e1 e2
    subst e1 e2
    have hb := val_lt (fun k => bs.getD k 0) h.get n
    refine ⟨?_, hb.1, hb.2, h.drop n⟩
    have e : bytesOf n (val (fun k => bs.getD k 0) n) = bs.take n := by
      apply List.ext_getElem?
      intro k
      by_cases hk : k < n
      · rw [bytesOf_at? n _ k hk, byte_val _ h.get n k hk, List.getElem?_take, if_pos hk]
        simp [List.getD, List.getElem?_eq_getElem (show k < bs.length by omega)]
      · rw [List.getElem?_eq_none (by rw [bytesOf_len]; omega), List.getElem?_eq_none (by rw [List.length_take]; omega)]
    rw [e, List.take_append_drop]
  · rw [if_neg hl] at e
    cases e
theorem rdn_none {n : Nat} {bs : List Int} (e : rdn n bs = none) : bs.length < n := by
  unfold rdn at e
  by_cases hl : n ≤ bs.length
  · rw [if_pos hl] at e; cases e
  · omega
theorem rdn_few {n : Nat} {bs : List Int} (h : bs.length < n) : rdn n bs = none := by unfold rdn; rw [if_neg (by omega)]
end Im
namespace Go.Proofs.Ytghomofakpjglaa
open Go.RowKit Go.Shelf
set_option linter.unusedVariables false
set_option linter.unusedSimpArgs false

/-- Something was thrown, in words. -/
def Pan (e : Ending) : Prop := ∃ s : ByteArray, e = .panicked [{ v := .iface 9 (.string s), recovered := false }]
/-- What a layout leaves that reads into block P: what was read stands there, and the reader is behind it; or it was thrown. -/
def Got {α : Type} (b Bb Bp P : Nat) (t : TypeId) (size : Nat) (r : Option (α × List Int)) (f : α → Array Value) (w : World) (e : Ending) (w' : World) : Prop :=
  (∃ v rest, r = some (v, rest) ∧ e = .returned (.tuple #[]) ∧ Rd b Bb Bp rest w' ∧ Rk b Bb P w w' ∧ Box w' P t (f v)) ∨ (r = none ∧ Pan e ∧ Rk b Bb P w w' ∧ ∃ cs', Box w' P t cs' ∧ cs'.size = size)

theorem read_few (size : Nat) (z : Int) (hz : z = size) (v0 : Int) (bs : List Int) (b Bb Bp : Nat) (w : World) (hl : bs.length < size) (h : Rd b Bb Bp bs w) :
    Calls Try.prog 76 #[.int .i64 z, .int .u64 v0, .pointer (some ⟨Bp, 0, none⟩)] w fun e w' => Pan e ∧ w = w' := by
  obtain ⟨hp, A, c, hb, _, _⟩ := h
  have b0 := hb.cell 0
  have p0 := hp.cell 0
  have hz0 : ¬ z ≤ (bs.length : Int) := by omega
  generalize bs.length = n at *
  clear hb hp hl hz
  go_enter Try.func76, Try.ntmps76
  go_wp2_with (go_at_call 37; ((with_reducible refine (need_no _ _).mono ?_); rintro e w2 ⟨rfl, rfl⟩))
  first | exact ⟨rfl, ⟨_, rfl⟩, rfl⟩ | exact ⟨⟨_, rfl⟩, rfl⟩

theorem read_all (size : Nat) (z : Int) (hz : z = size) (v0 y : Int) (bs rest : List Int) (b Bb Bp : Nat) (w : World) (hs : 1 ≤ size ∧ size ≤ 8) (hB : Im.IsBytes bs) (hr : Im.rdn size bs = some (y, rest)) (hbB : b ≤ Bb) (h : Rd b Bb Bp bs w) :
    Calls Try.prog 76 #[.int .i64 z, .int .u64 v0, .pointer (some ⟨Bp, 0, none⟩)] w fun e w' => e = .returned (.int .u64 y) ∧ Rd b Bb Bp rest w' ∧ Wrote b Bb w w' := by
  obtain ⟨e, h0, h1, _⟩ := Im.rdn_inv hB hr
  subst e
  have := read_num size z hz v0 y rest b Bb Bp w hs hbB h
  rwa [Int.emod_eq_of_lt h0 h1] at this
set_option maxRecDepth 100000 in
set_option maxHeartbeats 1000000 in
theorem part_int (size : Nat) (z : Int) (hz : z = size) (x0 : Int) (P o : Nat) (t : TypeId) (cs : Array Value) (bs : List Int) (b Bb Bp : Nat) (w : World) (hs : 1 ≤ size ∧ size ≤ 4) (hBy : Im.IsBytes bs) (hbB : b ≤ Bb) (hbP : b ≤ P) (hbw : b ≤ w.heap.size) (h : Rd b Bb Bp bs w) (hP : Box w P t cs) (ho : cs[o]? = some (.int .i64 x0)) (h1 : t ≠ 36) (h2 : t ≠ 5) (h3 : t ≠ 82) :
    Calls Try.prog 67 #[.func (.func 76) #[] #[.pointer (some ⟨Bp, 0, none⟩)], .int .i64 z, .pointer (some ⟨P, o, none⟩)] w (Got b Bb Bp P t cs.size (Im.rdn size bs) (fun y => cs.setIfInBounds o (.int .i64 (y))) w) := by
  subst hz
  have HP := Lib.hid hP
  have k0 := hP.cell o
  rw [ho] at k0
  cases hr : Im.rdn size bs with
  | none =>
    have cr := fun v0 => Lib.hid (read_few size size rfl v0 bs b Bb Bp w (Im.rdn_none hr) h)
    clear h hP ho hs hr
    go_enter Try.func67, Try.ntmps67
    go_wp2_with (go_at_call 76; ((with_reducible refine ((cr _).out).mono ?_); rintro e w2 ⟨⟨s, rfl⟩, rfl⟩))
    first | exact ⟨rfl, .inr ⟨rfl, ⟨_, rfl⟩, Rk.refl _ _ _ _, _, HP.out, rfl⟩⟩ | exact .inr ⟨rfl, ⟨_, rfl⟩, Rk.refl _ _ _ _, _, HP.out, rfl⟩
  | some q =>
    obtain ⟨y, rest⟩ := q
    obtain ⟨_, y0, y1, _⟩ := Im.rdn_inv hBy hr
    have y2 : y < 2 ^ (8 * 4) := Int.lt_of_lt_of_le y1 (by have := Nat.pow_le_pow_right (show 0 < 2 by decide) (show 8 * size ≤ 8 * 4 by omega); exact_mod_cast this)
    have hwb : IntKind.i64.wrap y = y := by rw [IntKind.wrap_i64]; omega
    have cr := fun v0 => Lib.hid (read_all size size rfl v0 y bs rest b Bb Bp w (by omega) hBy hr hbB h)
    have HH := Lib.hid h.isvar
    have HO := Lib.hid ho
    have HB := Lib.hid hbP
    clear h hP ho hr y0 y1 y2
    go_enter Try.func67, Try.ntmps67
    go_wp2_with (go_at_call 76; ((with_reducible refine ((cr _).out).mono ?_); rintro e w1 ⟨rfl, hI1, hK1⟩; have P1 := Lib.hid (HP.out.wrote' hK1 HH.out h1 h2); have I1 := Lib.hid hI1; have K1 := Lib.hid hK1; have k1 := P1.out.cell o; rw [HO.out] at k1; have f1 := P1.out.free o; clear hI1 hK1 k0))
    go_end0
    exact .inl ⟨y, rest, rfl, rfl, I1.out.off (p := ⟨P, o, none⟩) P1.out h3 h1 HB.out _, ⟨(K1.out.to hbw).setCell HB.out _, ((Kb.refl (B := P) w).wrote K1.out HH.out).put o _⟩, by show Box _ _ _ (cs.setIfInBounds o (.int .i64 (y))); (try rw [hwb]); exact P1.out.put o _⟩
set_option maxRecDepth 100000 in
set_option maxHeartbeats 1000000 in
theorem part_u64 (size : Nat) (z : Int) (hz : z = size) (x0 : Int) (P o : Nat) (t : TypeId) (cs : Array Value) (bs : List Int) (b Bb Bp : Nat) (w : World) (hs : 1 ≤ size ∧ size ≤ 8) (hBy : Im.IsBytes bs) (hbB : b ≤ Bb) (hbP : b ≤ P) (hbw : b ≤ w.heap.size) (h : Rd b Bb Bp bs w) (hP : Box w P t cs) (ho : cs[o]? = some (.int .u64 x0)) (h1 : t ≠ 36) (h2 : t ≠ 5) (h3 : t ≠ 82) :
    Calls Try.prog 68 #[.func (.func 76) #[] #[.pointer (some ⟨Bp, 0, none⟩)], .int .i64 z, .pointer (some ⟨P, o, none⟩)] w (Got b Bb Bp P t cs.size (Im.rdn size bs) (fun y => cs.setIfInBounds o (.int .u64 (y))) w) := by
  subst hz
  have HP := Lib.hid hP
  have k0 := hP.cell o
  rw [ho] at k0
  cases hr : Im.rdn size bs with
  | none =>
    have cr := fun v0 => Lib.hid (read_few size size rfl v0 bs b Bb Bp w (Im.rdn_none hr) h)
    clear h hP ho hs hr
    go_enter Try.func68, Try.ntmps68
    go_wp2_with (go_at_call 76; ((with_reducible refine ((cr _).out).mono ?_); rintro e w2 ⟨⟨s, rfl⟩, rfl⟩))
    first | exact ⟨rfl, .inr ⟨rfl, ⟨_, rfl⟩, Rk.refl _ _ _ _, _, HP.out, rfl⟩⟩ | exact .inr ⟨rfl, ⟨_, rfl⟩, Rk.refl _ _ _ _, _, HP.out, rfl⟩
  | some q =>
    obtain ⟨y, rest⟩ := q
    obtain ⟨_, y0, y1, _⟩ := Im.rdn_inv hBy hr
    have y2 : y < 2 ^ (8 * 8) := Int.lt_of_lt_of_le y1 (by have := Nat.pow_le_pow_right (show 0 < 2 by decide) (show 8 * size ≤ 8 * 8 by omega); exact_mod_cast this)
    have hwb : IntKind.u64.wrap y = y := by rw [IntKind.wrap_u64]; omega
    have cr := fun v0 => Lib.hid (read_all size size rfl v0 y bs rest b Bb Bp w (by omega) hBy hr hbB h)
    have HH := Lib.hid h.isvar
    have HO := Lib.hid ho
    have HB := Lib.hid hbP
    clear h hP ho hr y0 y1 y2
    go_enter Try.func68, Try.ntmps68
    go_wp2_with (go_at_call 76; ((with_reducible refine ((cr _).out).mono ?_); rintro e w1 ⟨rfl, hI1, hK1⟩; have P1 := Lib.hid (HP.out.wrote' hK1 HH.out h1 h2); have I1 := Lib.hid hI1; have K1 := Lib.hid hK1; have k1 := P1.out.cell o; rw [HO.out] at k1; have f1 := P1.out.free o; clear hI1 hK1 k0))
    go_end0
    exact .inl ⟨y, rest, rfl, rfl, I1.out.off (p := ⟨P, o, none⟩) P1.out h3 h1 HB.out _, ⟨(K1.out.to hbw).setCell HB.out _, ((Kb.refl (B := P) w).wrote K1.out HH.out).put o _⟩, by show Box _ _ _ (cs.setIfInBounds o (.int .u64 (y))); (try rw [hwb]); exact P1.out.put o _⟩
set_option maxRecDepth 100000 in
set_option maxHeartbeats 1000000 in
theorem part_i32 (size : Nat) (z : Int) (hz : z = size) (x0 : Int) (P o : Nat) (t : TypeId) (cs : Array Value) (bs : List Int) (b Bb Bp : Nat) (w : World) (hs : 1 ≤ size ∧ size ≤ 4) (hBy : Im.IsBytes bs) (hbB : b ≤ Bb) (hbP : b ≤ P) (hbw : b ≤ w.heap.size) (h : Rd b Bb Bp bs w) (hP : Box w P t cs) (ho : cs[o]? = some (.int .i32 x0)) (h1 : t ≠ 36) (h2 : t ≠ 5) (h3 : t ≠ 82) :
    Calls Try.prog 101 #[.func (.func 76) #[] #[.pointer (some ⟨Bp, 0, none⟩)], .int .i64 z, .pointer (some ⟨P, o, none⟩)] w (Got b Bb Bp P t cs.size (Im.rdn size bs) (fun y => cs.setIfInBounds o (.int .i32 (IntKind.i32.wrap y))) w) := by
  subst hz
  have HP := Lib.hid hP
  have k0 := hP.cell o
  rw [ho] at k0
  cases hr : Im.rdn size bs with
  | none =>
    have cr := fun v0 => Lib.hid (read_few size size rfl v0 bs b Bb Bp w (Im.rdn_none hr) h)
    clear h hP ho hs hr
    go_enter Try.func101, Try.ntmps101
    go_wp2_with (go_at_call 76; ((with_reducible refine ((cr _).out).mono ?_); rintro e w2 ⟨⟨s, rfl⟩, rfl⟩))
    first | exact ⟨rfl, .inr ⟨rfl, ⟨_, rfl⟩, Rk.refl _ _ _ _, _, HP.out, rfl⟩⟩ | exact .inr ⟨rfl, ⟨_, rfl⟩, Rk.refl _ _ _ _, _, HP.out, rfl⟩
  | some q =>
    obtain ⟨y, rest⟩ := q
    obtain ⟨_, y0, y1, _⟩ := Im.rdn_inv hBy hr
    have y2 : y < 2 ^ (8 * 4) := Int.lt_of_lt_of_le y1 (by have := Nat.pow_le_pow_right (show 0 < 2 by decide) (show 8 * size ≤ 8 * 4 by omega); exact_mod_cast this)
    obtain ⟨qy, hwb⟩ : ∃ qy, IntKind.i32.wrap y = qy := ⟨_, rfl⟩
    have cr := fun v0 => Lib.hid (read_all size size rfl v0 y bs rest b Bb Bp w (by omega) hBy hr hbB h)
    have HH := Lib.hid h.isvar
    have HO := Lib.hid ho
    have HB := Lib.hid hbP
    clear h hP ho hr y0 y1 y2
    go_enter Try.func101, Try.ntmps101
    go_wp2_with (go_at_call 76; ((with_reducible refine ((cr _).out).mono ?_); rintro e w1 ⟨rfl, hI1, hK1⟩; have P1 := Lib.hid (HP.out.wrote' hK1 HH.out h1 h2); have I1 := Lib.hid hI1; have K1 := Lib.hid hK1; have k1 := P1.out.cell o; rw [HO.out] at k1; have f1 := P1.out.free o; clear hI1 hK1 k0))
    go_end0
    exact .inl ⟨y, rest, rfl, rfl, I1.out.off (p := ⟨P, o, none⟩) P1.out h3 h1 HB.out _, ⟨(K1.out.to hbw).setCell HB.out _, ((Kb.refl (B := P) w).wrote K1.out HH.out).put o _⟩, by show Box _ _ _ (cs.setIfInBounds o (.int .i32 (IntKind.i32.wrap y))); (try rw [hwb]); exact P1.out.put o _⟩
end Go.Proofs.Ytghomofakpjglaa
namespace En
open Go Im
structure Ev where
  kind : Int
  slot : Int
  gen : Int
  peer : Int
/-- An entry: of the inputs those of slots 0 to 7 count. -/
structure E where
  frame : Int
  evs : List Ev
  inp : Nat → Gm.In
def Ev.cells (v : Ev) : List Value := [.int .i64 v.kind, .int .i64 v.slot, .int .i64 v.gen, .int .i64 v.peer]
/-- The 26 cells of an entry whose events are the slice s. -/
def cells (e : E) (s : Value) : Array Value := ([Value.int .i64 e.frame, s] ++ Gm.insCells e.inp).toArray
theorem cells_size (e : E) (s : Value) : (cells e s).size = 26 := rfl
theorem cells_0 (e : E) (s : Value) : (cells e s)[0]? = some (.int .i64 e.frame) := rfl
theorem cells_1 (e : E) (s : Value) : (cells e s)[1]? = some s := rfl
theorem cells_one (e : E) (s : Value) (h : s.oneCell' = true) : (cells e s).all (·.oneCell') = true := by
  refine Array.all_eq_true_iff_forall_mem.2 fun v hv => ?_
  have hv : v ∈ [Value.int .i64 e.frame, s] ++ Gm.insCells e.inp := by simpa [cells] using hv
  simp only [Gm.insCells, Gm.In.cells, List.mem_append, List.mem_cons, List.not_mem_nil, or_false] at hv
  rcases hv with (rfl | rfl) | hv
  · rfl
  · exact h
  · rcases hv with hv | hv | hv | hv | hv | hv | hv | hv <;> (rcases hv with rfl | rfl | rfl <;> rfl)
def upd (f : Nat → Gm.In) (i : Nat) (p : Gm.In) : Nat → Gm.In := fun j => if j = i then p else f j
theorem upd_same (f : Nat → Gm.In) (i : Nat) (p : Gm.In) : upd f i p i = p := by unfold upd; rw [if_pos rfl]
theorem upd_other (f : Nat → Gm.In) {i j : Nat} (p : Gm.In) (h : j ≠ i) : upd f i p j = f j := by unfold upd; rw [if_neg h]
theorem cells_frame (e : E) (s : Value) (f : Int) : (cells e s).setIfInBounds 0 (.int .i64 f) = cells { e with frame := f } s := rfl
/-- Two entries that are alike where it counts lie alike. -/
def Like (e o : E) : Prop := e.frame = o.frame ∧ e.evs = o.evs ∧ ∀ i, i < 8 → e.inp i = o.inp i
theorem insCells_like {f g : Nat → Gm.In} (h : ∀ i, i < 8 → f i = g i) : Gm.insCells f = Gm.insCells g := by
  unfold Gm.insCells
  rw [h 0 (by omega), h 1 (by omega), h 2 (by omega), h 3 (by omega), h 4 (by omega), h 5 (by omega), h 6 (by omega), h 7 (by omega)]
theorem cells_like {e o : E} (h : Like e o) (s : Value) : cells e s = cells o s := by unfold cells; rw [h.1, insCells_like h.2.2]

def evOk (v : Ev) : Prop := (v.kind = 2 ∨ v.kind = 1) ∧ (0 ≤ v.slot ∧ v.slot < 8) ∧ (1 ≤ v.gen ∧ v.gen ≤ 60000) ∧ 0 ≤ v.peer ∧ v.peer < 12
instance (v : Ev) : Decidable (evOk v) := by unfold evOk; infer_instance
def place (v : Ev) : Int := if v.kind = 2 then v.slot else 8 + v.slot
def Row : Int → List Ev → Prop
  | _, [] => True
  | last, v :: l => (evOk v ∧ last < place v) ∧ Row (place v) l
instance rowDec : ∀ (last : Int) (l : List Ev), Decidable (Row last l)
  | _, [] => .isTrue trivial
  | last, v :: l => by unfold Row; exact @instDecidableAnd _ _ _ (rowDec (place v) l)
theorem place_lt {v : Ev} (h : evOk v) : 0 ≤ place v ∧ place v < 16 := by
  obtain ⟨h1, h2, _⟩ := h
  unfold place
  split <;> omega
theorem row_len : ∀ (l : List Ev) (last : Int), -1 ≤ last → last < 16 → Row last l → (l.length : Int) ≤ 15 - last
  | [], last, _, h, _ => by simp; omega
  | v :: l, last, h0, h1, h => by
    obtain ⟨⟨h2, h3⟩, h4⟩ := h
    have hp := place_lt h2
    have := row_len l (place v) (by omega) (by omega) h4
    simp only [List.length_cons]
    omega
theorem row_mem : ∀ (l : List Ev) (last : Int), Row last l → ∀ v ∈ l, evOk v
  | v :: l, last, h, u, hu => by
    rcases List.mem_cons.1 hu with rfl | hu
    · exact h.1.1
    · exact row_mem l _ h.2 u hu
def inOk (p : Gm.In) : Prop := -127 ≤ p.x ∧ -127 ≤ p.y
instance (p : Gm.In) : Decidable (inOk p) := by unfold inOk; infer_instance
structure Ok (e : E) : Prop where
  frame : 0 ≤ e.frame ∧ e.frame < 1048576
  row : Row (-1) e.evs
  ins : ∀ i, i < 8 → inOk (e.inp i)
instance (e : E) : Decidable (Ok e) := decidable_of_iff ((0 ≤ e.frame ∧ e.frame < 1048576) ∧ Row (-1) e.evs ∧ ∀ i, i < 8 → inOk (e.inp i)) ⟨fun h => ⟨h.1, h.2.1, h.2.2⟩, fun h => ⟨h.frame, h.row, h.ins⟩⟩
theorem Ok.count {e : E} (h : Ok e) : e.evs.length ≤ 16 := by
  have := row_len e.evs (-1) (by omega) (by omega) h.row
  omega
theorem Ok.like {e o : E} (h : Ok e) (k : Like e o) : Ok o := ⟨k.1 ▸ h.frame, k.2.1 ▸ h.row, fun i hi => k.2.2 i hi ▸ h.ins i hi⟩
def i64 (x : Int) : Prop := -9223372036854775808 ≤ x ∧ x ≤ 9223372036854775807
def tyEv (v : Ev) : Prop := i64 v.kind ∧ i64 v.slot ∧ i64 v.gen ∧ i64 v.peer
structure Ty (e : E) : Prop where
  frame : i64 e.frame
  evs : ∀ v ∈ e.evs, tyEv v
  ins : ∀ i, i < 8 → Gm.tyIn (e.inp i)
theorem evOk.ty {v : Ev} (h : evOk v) : tyEv v := by
  obtain ⟨h1, h2, h3, h4⟩ := h
  unfold tyEv i64
  omega

def zero (p : Gm.In) : Bool := decide (p.x = 0 ∧ p.y = 0 ∧ p.b = 0)
def mask (f : Nat → Gm.In) : Nat → Nat
  | 0 => 0
  | k + 1 => mask f k + (if zero (f k) then 0 else 2 ^ k)
theorem mask_lt (f : Nat → Gm.In) : ∀ k, mask f k < 2 ^ k
  | 0 => by simp [mask]
  | k + 1 => by unfold mask; have := mask_lt f k; rw [Nat.pow_succ]; split <;> omega
theorem mask_congr {f g : Nat → Gm.In} : ∀ k, (∀ i, i < k → f i = g i) → mask f k = mask g k
  | 0, _ => rfl
  | k + 1, h => by unfold mask; rw [mask_congr k fun i hi => h i (by omega), h k (by omega)]
theorem mask_bit (f : Nat → Gm.In) : ∀ n k, k < n → (mask f n).testBit k = !zero (f k)
  | n + 1, k, hk => by
    unfold mask
    have hm := mask_lt f n
    by_cases e : k = n
    · subst e
      cases hz : zero (f k)
      · simp only [Bool.false_eq_true, if_false, Bool.not_false]
        rw [Nat.add_comm, Nat.testBit_two_pow_add_eq, Nat.testBit_lt_two_pow hm]
        rfl
      · simp only [if_true, Nat.add_zero, Bool.not_true]
        exact Nat.testBit_lt_two_pow hm
    · have ih := mask_bit f n k (by omega)
      cases hz : zero (f n)
      · simp only [Bool.false_eq_true, if_false]
        rw [Nat.add_comm, Nat.testBit_two_pow_add_gt (by omega), ih]
      · simp only [if_true, Nat.add_zero]
        exact ih
theorem mask_of (f : Nat → Gm.In) (m n : Nat) (h : ∀ k, k < n → (!zero (f k)) = m.testBit k) : mask f n = m % 2 ^ n := by
  apply Nat.eq_of_testBit_eq
  intro i
  rw [Nat.testBit_mod_two_pow]
  by_cases hi : i < n
  · rw [mask_bit f n i hi, h i hi]
    simp [hi]
  · rw [Nat.testBit_lt_two_pow (Nat.lt_of_lt_of_le (mask_lt f n) (Nat.pow_le_pow_right (by decide) (by omega)))]
    simp [hi]
def evBytes (v : Ev) : List Int := bytesOf 1 v.kind ++ (bytesOf 1 v.slot ++ (bytesOf 2 v.gen ++ bytesOf 1 v.peer))
def evsBytes (l : List Ev) : List Int := l.flatMap evBytes
def inBytes (p : Gm.In) : List Int := bytesOf 1 p.x ++ (bytesOf 1 p.y ++ bytesOf 1 p.b)
def insBytes (f : Nat → Gm.In) : Nat → List Int
  | 0 => []
  | k + 1 => insBytes f k ++ (if zero (f k) then [] else inBytes (f k))
theorem evBytes_len (v : Ev) : (evBytes v).length = 5 := by unfold evBytes; simp only [List.length_append, bytesOf_len]
theorem inBytes_len (p : Gm.In) : (inBytes p).length = 3 := by unfold inBytes; simp only [List.length_append, bytesOf_len]
theorem evsBytes_len (l : List Ev) : (evsBytes l).length = 5 * l.length := by
  induction l with
  | nil => rfl
  | cons s l ih => unfold evsBytes at *; rw [List.flatMap_cons, List.length_append, ih, evBytes_len, List.length_cons]; omega
theorem insBytes_le (f : Nat → Gm.In) : ∀ k, (insBytes f k).length ≤ 3 * k
  | 0 => Nat.le_refl _
  | k + 1 => by
    unfold insBytes
    have := insBytes_le f k
    rw [List.length_append]
    split
    · simp; omega
    · rw [inBytes_len]; omega
/-- An entry's bytes. -/
def put (e : E) : List Int := bytesOf 4 e.frame ++ ((bytesOf 1 e.evs.length ++ evsBytes e.evs) ++ (bytesOf 1 (mask e.inp 8) ++ insBytes e.inp 8))
theorem insBytes_congr {f g : Nat → Gm.In} : ∀ k, (∀ i, i < k → f i = g i) → insBytes f k = insBytes g k
  | 0, _ => rfl
  | k + 1, h => by unfold insBytes; rw [insBytes_congr k fun i hi => h i (by omega), h k (by omega)]
theorem put_like {e o : E} (h : Like e o) : put e = put o := by unfold put; rw [h.1, h.2.1, mask_congr 8 h.2.2, insBytes_congr 8 h.2.2]
theorem put_le {e : E} (h : e.evs.length ≤ 16) : (put e).length ≤ 110 := by
  have h1 := evsBytes_len e.evs
  have h2 := insBytes_le e.inp 8
  unfold put
  simp only [List.length_append, bytesOf_len]
  omega
theorem put_bytes (e : E) : IsBytes (put e) := by
  have b1 : ∀ l : List Ev, IsBytes (evsBytes l) := fun l x hx => by
    obtain ⟨v, _, hx⟩ := List.mem_flatMap.1 hx
    exact ((bytesOf_bytes 1 _).app ((bytesOf_bytes 1 _).app ((bytesOf_bytes 2 _).app (bytesOf_bytes 1 _)))) x hx
  have b2 : ∀ k, IsBytes (insBytes e.inp k) := fun k => by
    induction k with
    | zero => exact IsBytes.nil
    | succ k ih =>
      unfold insBytes
      refine ih.app ?_
      split
      · exact IsBytes.nil
      · exact (bytesOf_bytes 1 _).app ((bytesOf_bytes 1 _).app (bytesOf_bytes 1 _))
  exact (bytesOf_bytes 4 _).app (((bytesOf_bytes 1 _).app (b1 _)).app ((bytesOf_bytes 1 _).app (b2 8)))
end En
namespace En
open Go Im
def decEv (bs : List Int) : Option (Ev × List Int) :=
  (rdn 1 bs).bind fun k => (rdn 1 k.2).bind fun s => (rdn 2 s.2).bind fun g => (rdn 1 g.2).bind fun p => some (⟨k.1, s.1, g.1, p.1⟩, p.2)
/-- n events, behind those that were read already. -/
def decEvs : Nat → List Ev → List Int → Option (List Ev × List Int)
  | 0, l, bs => some (l, bs)
  | n + 1, l, bs => (decEv bs).bind fun q => decEvs n (l ++ [q.1]) q.2
def decEvents (bs : List Int) : Option (List Ev × List Int) := (rdn 1 bs).bind fun n => decEvs n.1.toNat [] n.2
def decIn (bs : List Int) : Option (Gm.In × List Int) :=
  (rdn 1 bs).bind fun x => (rdn 1 x.2).bind fun y => (rdn 1 y.2).bind fun b => if zero ⟨IntKind.i8.wrap x.1, IntKind.i8.wrap y.1, b.1⟩ then none else some (⟨IntKind.i8.wrap x.1, IntKind.i8.wrap y.1, b.1⟩, b.2)
/-- The inputs of n slots from k on, of those that m tells. -/
def decIns (m : Nat) : Nat → Nat → (Nat → Gm.In) → List Int → Option ((Nat → Gm.In) × List Int)
  | _, 0, f, bs => some (f, bs)
  | k, n + 1, f, bs => if m.testBit k then (decIn bs).bind fun q => decIns m (k + 1) n (upd f k q.1) q.2 else decIns m (k + 1) n f bs
def in0 : Nat → Gm.In := fun _ => ⟨0, 0, 0⟩
def decInputs (f : Nat → Gm.In) (bs : List Int) : Option ((Nat → Gm.In) × List Int) := (rdn 1 bs).bind fun m => decIns m.1.toNat 0 8 f m.2
def dec (bs : List Int) : Option (E × List Int) :=
  (rdn 4 bs).bind fun a => (decEvents a.2).bind fun l => (decInputs in0 l.2).bind fun f => some (⟨a.1, l.1, f.1⟩, f.2)
def get (bs : List Int) : Option E := (dec bs).bind fun q => if q.2 = [] ∧ Ok q.1 then some q.1 else none

theorem mod1 {x : Int} (h : 0 ≤ x ∧ x < 256) : x % 2 ^ (8 * 1) = x := by omega
theorem decEv_put {v : Ev} (h : evOk v) (rest : List Int) : decEv (evBytes v ++ rest) = some (v, rest) := by
  obtain ⟨h1, h2, h3, h4⟩ := h
  unfold decEv evBytes
  rw [List.append_assoc, rdn_bytes, Option.bind_some, List.append_assoc, rdn_bytes, Option.bind_some, List.append_assoc, rdn_bytes, Option.bind_some, rdn_bytes, Option.bind_some]
  dsimp only
  rw [mod1 (by omega), mod1 (by omega), mod1 (by omega), show v.gen % 2 ^ (8 * 2) = v.gen by omega]
theorem decEvs_put : ∀ (l : List Ev) (a : List Ev) (rest : List Int), (∀ v ∈ l, evOk v) → decEvs l.length a (evsBytes l ++ rest) = some (a ++ l, rest)
  | [], a, rest, _ => by simp [decEvs, evsBytes]
  | v :: l, a, rest, h => by
    have e : evsBytes (v :: l) ++ rest = evBytes v ++ (evsBytes l ++ rest) := by simp [evsBytes]
    rw [e]
    show (decEv (evBytes v ++ (evsBytes l ++ rest))).bind _ = _
    rw [decEv_put (h v (by simp)), Option.bind_some, decEvs_put l (a ++ [v]) rest fun u hu => h u (by simp [hu])]
    simp
theorem decIn_put {p : Gm.In} (h : Gm.tyIn p) (hz : zero p = false) (rest : List Int) : decIn (inBytes p ++ rest) = some (p, rest) := by
  obtain ⟨h1, h2, h3⟩ := h
  unfold decIn inBytes
  rw [List.append_assoc, rdn_bytes, Option.bind_some, List.append_assoc, rdn_bytes, Option.bind_some, rdn_bytes, Option.bind_some]
  dsimp only
  have e1 : IntKind.i8.wrap (p.x % 2 ^ (8 * 1)) = p.x := by rw [Im.wrap_i8]; omega
  have e2 : IntKind.i8.wrap (p.y % 2 ^ (8 * 1)) = p.y := by rw [Im.wrap_i8]; omega
  rw [e1, e2, mod1 (by omega), hz]
  rfl
theorem zero_is {p : Gm.In} (h : zero p = true) : p = ⟨0, 0, 0⟩ := by
  unfold zero at h
  have := of_decide_eq_true h
  obtain ⟨x, y, b⟩ := p
  dsimp only at this
  obtain ⟨rfl, rfl, rfl⟩ := this
  rfl
def insFrom (f : Nat → Gm.In) : Nat → Nat → List Int
  | _, 0 => []
  | k, n + 1 => (if zero (f k) then [] else inBytes (f k)) ++ insFrom f (k + 1) n
theorem ins_from (f : Nat → Gm.In) : ∀ (n k : Nat), insBytes f k ++ insFrom f k n = insBytes f (k + n)
  | 0, k => by simp [insFrom]
  | n + 1, k => by
    show insBytes f k ++ ((if zero (f k) then [] else inBytes (f k)) ++ insFrom f (k + 1) n) = _
    rw [← List.append_assoc]
    have := ins_from f n (k + 1)
    rw [show k + 1 + n = k + (n + 1) by omega] at this
    exact this
theorem decIns_put (m : Nat) (f : Nat → Gm.In) : ∀ (n k : Nat) (g : Nat → Gm.In) (rest : List Int), (∀ i, k ≤ i → i < k + n → m.testBit i = !zero (f i)) → (∀ i, k ≤ i → i < k + n → Gm.tyIn (f i) ∧ g i = ⟨0, 0, 0⟩) →
    ∃ f', decIns m k n g (insFrom f k n ++ rest) = some (f', rest) ∧ (∀ i, k ≤ i → i < k + n → f' i = f i) ∧ (∀ i, i < k ∨ k + n ≤ i → f' i = g i)
  | 0, k, g, rest, _, _ => ⟨g, rfl, fun i _ _ => by omega, fun _ _ => rfl⟩
  | n + 1, k, g, rest, hm, ht => by
    have hk := hm k (by omega) (by omega)
    unfold decIns insFrom
    cases hz : zero (f k)
    · rw [hz] at hk
      rw [hk]
      simp only [Bool.not_false, if_true, Bool.false_eq_true, if_false, List.append_assoc]
      rw [decIn_put (ht k (by omega) (by omega)).1 hz, Option.bind_some]
      obtain ⟨f', h1, h2, h3⟩ := decIns_put m f n (k + 1) (upd g k (f k)) rest (fun i a b => hm i (by omega) (by omega)) fun i a b => ⟨(ht i (by omega) (by omega)).1, by rw [upd_other _ _ (by omega)]; exact (ht i (by omega) (by omega)).2⟩
      refine ⟨f', h1, fun i a b => ?_, fun i a => ?_⟩
      · by_cases e : i = k
        · subst e; rw [h3 i (by omega), upd_same]
        · exact h2 i (by omega) (by omega)
      · rw [h3 i (by omega), upd_other _ _ (by omega)]
    · rw [hz] at hk
      rw [hk]
      simp only [Bool.not_true, Bool.false_eq_true, if_false, if_true, List.nil_append]
      obtain ⟨f', h1, h2, h3⟩ := decIns_put m f n (k + 1) g rest (fun i a b => hm i (by omega) (by omega)) fun i a b => ht i (by omega) (by omega)
      refine ⟨f', h1, fun i a b => ?_, fun i a => h3 i (by omega)⟩
      by_cases e : i = k
      · subst e; rw [h3 i (by omega), (ht i (by omega) (by omega)).2, zero_is hz]
      · exact h2 i (by omega) (by omega)
theorem dec_put {e : E} (h : Ok e) (ht : Ty e) (rest : List Int) : ∃ e', dec (put e ++ rest) = some (e', rest) ∧ Like e e' := by
  have hm := mask_lt e.inp 8
  have hc := h.count
  have e8 := ins_from e.inp 8 0
  rw [show 0 + 8 = 8 from rfl] at e8
  obtain ⟨f', h1, h2, _⟩ := decIns_put (mask e.inp 8) e.inp 8 0 in0 rest (fun i _ hi => mask_bit e.inp 8 i (by omega)) fun i _ hi => ⟨ht.ins i (by omega), rfl⟩
  have hfr := h.frame
  refine ⟨⟨e.frame, e.evs, f'⟩, ?_, rfl, rfl, fun i hi => (h2 i (Nat.zero_le _) (by omega)).symm⟩
  unfold dec put decEvents decInputs
  rw [← e8]
  simp only [List.append_assoc, rdn_bytes, Option.bind_some]
  rw [show (e.evs.length : Int) % 2 ^ (8 * 1) = e.evs.length by omega, Int.toNat_natCast, decEvs_put _ _ _ (row_mem _ _ h.row)]
  simp only [Option.bind_some, rdn_bytes]
  rw [show ((mask e.inp 8 : Nat) : Int) % 2 ^ (8 * 1) = (mask e.inp 8 : Nat) by omega, Int.toNat_natCast]
  have e0 : insBytes e.inp 0 = [] := rfl
  rw [e0, List.nil_append, h1]
  simp only [Option.bind_some, List.nil_append]
  rw [show e.frame % 2 ^ (8 * 4) = e.frame by omega]

theorem decEv_inv {bs rest : List Int} {v : Ev} (hB : IsBytes bs) (h : decEv bs = some (v, rest)) : bs = evBytes v ++ rest ∧ IsBytes rest ∧ tyEv v := by
  unfold decEv at h
  obtain ⟨⟨k, b1⟩, h1, h⟩ := Option.bind_eq_some_iff.1 h
  obtain ⟨⟨s, b2⟩, h2, h⟩ := Option.bind_eq_some_iff.1 h
  obtain ⟨⟨g, b3⟩, h3, h⟩ := Option.bind_eq_some_iff.1 h
  obtain ⟨⟨p, b4⟩, h4, h⟩ := Option.bind_eq_some_iff.1 h
  injection h with h
  injection h with e1 e2
  subst e1 e2
  obtain ⟨rfl, x1, y1, B1⟩ := rdn_inv hB h1
  obtain ⟨rfl, x2, y2, B2⟩ := rdn_inv B1 h2
  obtain ⟨rfl, x3, y3, B3⟩ := rdn_inv B2 h3
  obtain ⟨rfl, x4, y4, B4⟩ := rdn_inv B3 h4
  refine ⟨?_, B4, ?_⟩
  · unfold evBytes
    simp only [List.append_assoc]
  · unfold tyEv i64
    (try dsimp only at *)
    omega
theorem decEvs_inv : ∀ (n : Nat) (a l : List Ev) (bs rest : List Int), IsBytes bs → decEvs n a bs = some (l, rest) → ∃ l', l = a ++ l' ∧ l'.length = n ∧ bs = evsBytes l' ++ rest ∧ IsBytes rest ∧ ∀ v ∈ l', tyEv v
  | 0, a, l, bs, rest, hB, h => by
    unfold decEvs at h
    injection h with h
    injection h with e1 e2
    subst e1 e2
    exact ⟨[], by simp, rfl, rfl, hB, fun _ h => by cases h⟩
  | n + 1, a, l, bs, rest, hB, h => by
    unfold decEvs at h
    obtain ⟨⟨v, b1⟩, h1, hq⟩ := Option.bind_eq_some_iff.1 h
    clear h
    obtain ⟨rfl, B1, t1⟩ := decEv_inv hB h1
    obtain ⟨l', rfl, h2, h3, B2, t2⟩ := decEvs_inv n _ l _ rest B1 hq
    subst h3
    refine ⟨v :: l', by simp, by simp [h2], by simp [evsBytes], B2, fun u hu => ?_⟩
    rcases List.mem_cons.1 hu with rfl | hu
    · exact t1
    · exact t2 u hu
theorem decIn_inv {bs rest : List Int} {p : Gm.In} (hB : IsBytes bs) (h : decIn bs = some (p, rest)) : bs = inBytes p ++ rest ∧ IsBytes rest ∧ Gm.tyIn p ∧ zero p = false := by
  unfold decIn at h
  obtain ⟨⟨x, b1⟩, h1, h⟩ := Option.bind_eq_some_iff.1 h
  obtain ⟨⟨y, b2⟩, h2, h⟩ := Option.bind_eq_some_iff.1 h
  obtain ⟨⟨b, b3⟩, h3, h⟩ := Option.bind_eq_some_iff.1 h
  dsimp only at h
  split at h
  · cases h
  · rename_i hz
    injection h with h
    injection h with e1 e2
    subst e1 e2
    obtain ⟨rfl, x1, y1, B1⟩ := rdn_inv hB h1
    obtain ⟨rfl, x2, y2, B2⟩ := rdn_inv B1 h2
    obtain ⟨rfl, x3, y3, B3⟩ := rdn_inv B2 h3
    refine ⟨?_, B3, ?_, by simpa using hz⟩
    · have e : ∀ z : Int, bytesOf 1 (IntKind.i8.wrap z) = bytesOf 1 z := fun z => by
        unfold bytesOf bytesOf
        rw [Im.wrap_i8]
        simp only [Nat.mul_zero, List.nil_append, List.cons.injEq, and_true]
        omega
      unfold inBytes
      simp only [List.append_assoc, e]
    · unfold Gm.tyIn
      (try dsimp only at *)
      rw [Im.wrap_i8, Im.wrap_i8]
      omega
theorem decIns_inv (m : Nat) : ∀ (n k : Nat) (g f : Nat → Gm.In) (bs rest : List Int), IsBytes bs → (∀ i, k ≤ i → i < k + n → g i = ⟨0, 0, 0⟩) → decIns m k n g bs = some (f, rest) →
    bs = insFrom f k n ++ rest ∧ IsBytes rest ∧ (∀ i, k ≤ i → i < k + n → (!zero (f i)) = m.testBit i ∧ Gm.tyIn (f i)) ∧ ∀ i, i < k ∨ k + n ≤ i → f i = g i
  | 0, k, g, f, bs, rest, hB, hg, h => by
    unfold decIns at h
    injection h with h
    injection h with e1 e2
    subst e1 e2
    exact ⟨rfl, hB, fun i _ _ => by omega, fun _ _ => rfl⟩
  | n + 1, k, g, f, bs, rest, hB, hg, h => by
    unfold decIns at h
    cases hb : m.testBit k
    · rw [hb] at h
      simp only [Bool.false_eq_true, if_false] at h
      obtain ⟨h1, B1, h2, h3⟩ := decIns_inv m n (k + 1) g f bs rest hB (fun i a b => hg i (by omega) (by omega)) h
      have hk : f k = ⟨0, 0, 0⟩ := (h3 k (by omega)).trans (hg k (by omega) (by omega))
      refine ⟨?_, B1, fun i a b => ?_, fun i a => h3 i (by omega)⟩
      · rw [h1]
        conv => rhs; unfold insFrom
        rw [hk]
        rfl
      · by_cases e : i = k
        · subst e
          rw [hk, hb]
          exact ⟨rfl, by unfold Gm.tyIn; dsimp only; omega⟩
        · exact h2 i (by omega) (by omega)
    · rw [hb] at h
      simp only [if_true] at h
      obtain ⟨⟨p, b1⟩, h1, hq⟩ := Option.bind_eq_some_iff.1 h
      clear h
      obtain ⟨rfl, B1, t1, z1⟩ := decIn_inv hB h1
      obtain ⟨h2, B2, h3, h4⟩ := decIns_inv m n (k + 1) (upd g k p) f b1 rest B1 (fun i a b => by rw [upd_other _ _ (by omega)]; exact hg i (by omega) (by omega)) hq
      have hk : f k = p := (h4 k (by omega)).trans (upd_same _ _ _)
      refine ⟨?_, B2, fun i a b => ?_, fun i a => ?_⟩
      · rw [h2]
        conv => rhs; unfold insFrom
        rw [hk, z1]
        simp
      · by_cases e : i = k
        · subst e
          rw [hk, hb, z1]
          exact ⟨rfl, t1⟩
        · exact h3 i (by omega) (by omega)
      · rw [h4 i (by omega), upd_other _ _ (by omega)]
theorem dec_inv {bs rest : List Int} {e : E} (hB : IsBytes bs) (h : dec bs = some (e, rest)) : bs = put e ++ rest ∧ Ty e := by
  unfold dec decEvents decInputs at h
  obtain ⟨⟨f, b1⟩, h1, ha⟩ := Option.bind_eq_some_iff.1 h
  clear h
  obtain ⟨⟨l, b2⟩, h2, hb⟩ := Option.bind_eq_some_iff.1 ha
  clear ha
  obtain ⟨⟨n, b3⟩, h3, hc⟩ := Option.bind_eq_some_iff.1 h2
  clear h2
  obtain ⟨⟨g, b4⟩, h4, hd⟩ := Option.bind_eq_some_iff.1 hb
  clear hb
  obtain ⟨⟨m, b5⟩, h5, he⟩ := Option.bind_eq_some_iff.1 h4
  clear h4
  injection hd with hd
  injection hd with e1 e2
  subst e1 e2
  dsimp only at h3 hc h5 he ⊢
  obtain ⟨rfl, x1, y1, B1⟩ := rdn_inv hB h1
  obtain ⟨rfl, x2, y2, B2⟩ := rdn_inv B1 h3
  obtain ⟨l', hl0, hl, rfl, B3, t3⟩ := decEvs_inv _ _ _ _ _ B2 hc
  rw [List.nil_append] at hl0
  subst hl0
  obtain ⟨rfl, x4, y4, B4⟩ := rdn_inv B3 h5
  obtain ⟨rfl, B5, h6, _⟩ := decIns_inv _ _ _ _ _ _ _ B4 (fun i _ _ => rfl) he
  have hm := mask_of g m.toNat 8 fun k hk => (h6 k (Nat.zero_le _) (by omega)).1
  have e8 := ins_from g 8 0
  rw [show 0 + 8 = 8 from rfl, show insBytes g 0 = [] from rfl, List.nil_append] at e8
  rw [Nat.mod_eq_of_lt (by omega)] at hm
  refine ⟨?_, ⟨?_, t3, fun i hi => (h6 i (Nat.zero_le _) (by omega)).2⟩⟩
  · unfold put
    dsimp only
    rw [hm, ← e8, hl, Int.toNat_of_nonneg x2, Int.toNat_of_nonneg x4]
    simp only [List.append_assoc]
  · unfold i64; dsimp only; omega

theorem get_put {e : E} (h : Ok e) (ht : Ty e) : ∃ e', get (put e) = some e' ∧ Like e e' := by
  obtain ⟨e', h1, h2⟩ := dec_put h ht []
  rw [List.append_nil] at h1
  refine ⟨e', ?_, h2⟩
  unfold get
  rw [h1, Option.bind_some, if_pos ⟨rfl, h.like h2⟩]
theorem get_some {bs : List Int} {e : E} (hB : IsBytes bs) (h : get bs = some e) : Ok e ∧ Ty e ∧ put e = bs := by
  unfold get at h
  obtain ⟨⟨e', r⟩, h1, h⟩ := Option.bind_eq_some_iff.1 h
  split at h
  · rename_i hq
    injection h with h
    subst h
    obtain ⟨h2, h3⟩ := dec_inv hB h1
    dsimp only at hq h2 h3 ⊢
    rw [hq.1, List.append_nil] at h2
    exact ⟨hq.2, h3, h2.symm⟩
  · cases h
theorem get_app {e : E} (h : Ok e) (ht : Ty e) {rest : List Int} (hr : rest ≠ []) : get (put e ++ rest) = none := by
  obtain ⟨e', h1, h2⟩ := dec_put h ht rest
  unfold get
  rw [h1, Option.bind_some, if_neg (fun q => hr q.1)]
theorem get_cut {e : E} (h : Ok e) (ht : Ty e) {k : Nat} (hk : k < (put e).length) : get ((put e).take k) = none := by
  cases hg : get ((put e).take k) with
  | none => rfl
  | some o =>
    obtain ⟨h1, h2, h3⟩ := get_some ((put_bytes e).take k) hg
    have h4 := get_app h1 h2 (rest := (put e).drop k) (fun q => by have := congrArg List.length q; simp at this; omega)
    rw [h3, List.take_append_drop] at h4
    obtain ⟨e', h5, _⟩ := get_put h ht
    rw [h4] at h5
    cases h5
end En
