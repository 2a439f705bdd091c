/-
Several texts in one: Nw Nr Qa I1 Rx Qb Qc Qd Qe Qf Oc Rn Qi I3 I4 I5 Qj.
-/
import Derived.Test.YtbihnmingedgfaaIc
import Derived.Test.YtbihnmingedgfaaIn
import Derived.Test.YtbihnmingedgfaaIp
import Derived.Test.YtbihnmingedgfaaIy
import Derived.Test.YtbihnmingedgfaaI2
import Derived.Test.YtbihnmingedgfaaDp
import Derived.Orders
import Derived.Tactics
import Derived.Tactics2
import Derived.KernelRfl
import Derived.Test.YtbihnmingedgfaaIq
import Derived.Test.YtbihnmingedgfaaIa
import Derived.Laws.BytesArg
import Derived.Lib.Bytes
import Derived.Test.YtbihnmingedgfaaQx
import Derived.Test.YtbihnmingedgfaaIj
import Derived.Test.YtbihnmingedgfaaGr
import Derived.Test.YtbihnmingedgfaaIh
import Derived.Test.YtbihnmingedgfaaTa
import Derived.Test.YtbihnmingedgfaaTk
import Derived.LoopTactic
import Derived.BigQuiet
import Derived.Great.BuildSlice
/-
The program's lay: bytes are put (by the writer).
-/

namespace Im
open Go
theorem wrap_i8 (n : Int) : IntKind.i8.wrap n = (n + 128) % 256 - 128 := by
  simp [IntKind.wrap, IntKind.bits, IntKind.signed]
  try omega
end Im
namespace Go.Proofs.Ytbihnmingedgfaa
open Go.RowKit Go.Shelf
set_option linter.unusedVariables false

set_option maxRecDepth 100000 in
set_option maxHeartbeats 1000000 in
theorem layi8_w (size : Nat) (z : Int) (hz : z = size) (x : Int) (P o : Nat) (t : TypeId) (cs : Array Value) (bs : List Int) (b Bb Bp : Nat) (w : World) (hs : size ≤ 8) (hx : -128 ≤ x ∧ x ≤ 127) (hbB : b ≤ Bb) (h : Wr b Bb Bp bs w) (hl : bs.length + size ≤ 65536) (hP : Box w P t cs) (ho : cs[o]? = some (.int .i8 x)) (h1 : t ≠ 54) (h2 : t ≠ 5) (h3 : t ≠ 120) :
    Calls Try.prog 162 #[.func (.func 129) #[] #[.pointer (some ⟨Bp, 0, none⟩)], .int .i64 z, .pointer (some ⟨P, o, none⟩)] w fun e w' => e = .returned (.tuple #[]) ∧ Wr b Bb Bp (bs ++ Im.bytesOf size (IntKind.u64.wrap x)) w' ∧ Wrote b Bb w w' := by
  subst hz
  have hwb : IntKind.i8.wrap (IntKind.u64.wrap x) = x := by rw [Im.wrap_i8, IntKind.wrap_u64]; omega
  have hvr : 0 ≤ IntKind.u64.wrap x ∧ IntKind.u64.wrap x ≤ 18446744073709551615 := by rw [IntKind.wrap_u64]; omega
  obtain ⟨v, hv⟩ : ∃ v, v = IntKind.u64.wrap x := ⟨_, rfl⟩
  rw [← hv] at hwb hvr ⊢
  have cw := Lib.hid (write_any size v bs b Bb Bp w hs hvr hbB h hl)
  have HH := Lib.hid h
  have HP := Lib.hid hP
  have hvv : IntKind.u64.wrap x = v := hv.symm
  clear hv
  have k0 := hP.cell o
  rw [ho] at k0
  have HO := Lib.hid ho
  clear h hP ho
  go_enter Try.func162, Try.ntmps162
  go_wp2_with (go_at_call 129; ((with_reducible refine (cw.out).mono ?_); rintro e w1 ⟨rfl, hI1, hK1⟩; have P1 := Lib.hid (HP.out.wrote' hK1 HH.out.isvar h1 h2); have I1 := Lib.hid hI1; have K1 := Lib.hid hK1; have k1 := P1.out.cell o; rw [HO.out] at k1; have f1 := P1.out.free o; clear hI1 hK1 k0))
  go_end0
  exact ⟨rfl, I1.out.off (p := ⟨P, o, none⟩) P1.out h3 h1 h2 _, K1.out.noop P1.out HO.out⟩

set_option maxRecDepth 100000 in
set_option maxHeartbeats 1000000 in
theorem layu8_w (size : Nat) (z : Int) (hz : z = size) (x : Int) (P o : Nat) (t : TypeId) (cs : Array Value) (bs : List Int) (b Bb Bp : Nat) (w : World) (hs : size ≤ 8) (hx : 0 ≤ x ∧ x ≤ 255) (hbB : b ≤ Bb) (h : Wr b Bb Bp bs w) (hl : bs.length + size ≤ 65536) (hP : Box w P t cs) (ho : cs[o]? = some (.int .u8 x)) (h1 : t ≠ 54) (h2 : t ≠ 5) (h3 : t ≠ 120) :
    Calls Try.prog 163 #[.func (.func 129) #[] #[.pointer (some ⟨Bp, 0, none⟩)], .int .i64 z, .pointer (some ⟨P, o, none⟩)] w fun e w' => e = .returned (.tuple #[]) ∧ Wr b Bb Bp (bs ++ Im.bytesOf size (IntKind.u64.wrap x)) w' ∧ Wrote b Bb w w' := by
  subst hz
  have hwb : IntKind.u8.wrap (IntKind.u64.wrap x) = x := by rw [IntKind.wrap_u8, IntKind.wrap_u64]; omega
  have hvr : 0 ≤ IntKind.u64.wrap x ∧ IntKind.u64.wrap x ≤ 18446744073709551615 := by rw [IntKind.wrap_u64]; omega
  obtain ⟨v, hv⟩ : ∃ v, v = IntKind.u64.wrap x := ⟨_, rfl⟩
  rw [← hv] at hwb hvr ⊢
  have cw := Lib.hid (write_any size v bs b Bb Bp w hs hvr hbB h hl)
  have HH := Lib.hid h
  have HP := Lib.hid hP
  have hvv : IntKind.u64.wrap x = v := hv.symm
  clear hv
  have k0 := hP.cell o
  rw [ho] at k0
  have HO := Lib.hid ho
  clear h hP ho
  go_enter Try.func163, Try.ntmps163
  go_wp2_with (go_at_call 129; ((with_reducible refine (cw.out).mono ?_); rintro e w1 ⟨rfl, hI1, hK1⟩; have P1 := Lib.hid (HP.out.wrote' hK1 HH.out.isvar h1 h2); have I1 := Lib.hid hI1; have K1 := Lib.hid hK1; have k1 := P1.out.cell o; rw [HO.out] at k1; have f1 := P1.out.free o; clear hI1 hK1 k0))
  go_end0
  exact ⟨rfl, I1.out.off (p := ⟨P, o, none⟩) P1.out h3 h1 h2 _, K1.out.noop P1.out HO.out⟩

end Go.Proofs.Ytbihnmingedgfaa

/-
Whatever bytes are read: numbers, or the end comes too soon.
-/


namespace Im
open Go
def IsBytes (bs : List Int) : Prop := ∀ x ∈ bs, 0 ≤ x ∧ x ≤ 255
theorem IsBytes.nil : IsBytes [] := fun _ h => by cases h
theorem IsBytes.drop {bs : List Int} (h : IsBytes bs) (n : Nat) : IsBytes (bs.drop n) := fun x hx => h x (List.mem_of_mem_drop hx)
theorem IsBytes.take {bs : List Int} (h : IsBytes bs) (n : Nat) : IsBytes (bs.take n) := fun x hx => h x (List.mem_of_mem_take hx)
theorem IsBytes.app {bs cs : List Int} (h : IsBytes bs) (k : IsBytes cs) : IsBytes (bs ++ cs) := fun x hx => by
  rcases List.mem_append.1 hx with hx | hx
  · exact h x hx
  · exact k x hx
theorem IsBytes.get {bs : List Int} (h : IsBytes bs) (k : Nat) : 0 ≤ bs.getD k 0 ∧ bs.getD k 0 ≤ 255 := by
  by_cases hk : k < bs.length
  · have e : bs.getD k 0 = bs[k] := by simp [List.getD, hk]
    rw [e]
    exact h _ (List.getElem_mem hk)
  · have e : bs.getD k 0 = 0 := by simp [List.getD, List.getElem?_eq_none (show bs.length ≤ k by omega)]
    rw [e]
    omega
theorem bytesOf_bytes : ∀ (n : Nat) (v : Int), IsBytes (bytesOf n v)
  | 0, _ => IsBytes.nil
  | n + 1, v => by
    unfold bytesOf
    refine (bytesOf_bytes n v).app fun x hx => ?_
    obtain rfl := List.mem_singleton.1 hx
    omega
theorem val_congr {f g : Nat → Int} : ∀ n, (∀ k, k < n → f k = g k) → val f n = val g n
  | 0, _ => rfl
  | n + 1, h => by unfold val; rw [val_congr n fun k hk => h k (by omega), h n (by omega)]
theorem byte_val (f : Nat → Int) (h : ∀ k, 0 ≤ f k ∧ f k ≤ 255) : ∀ n k, k < n → byte (val f n) k = f k
  | 0, k, hk => by omega
  | n + 1, k, hk => by
    unfold val byte
    have hf := h k
    by_cases e : k = n
    · subst e
      have hv := val_lt f h k
      have hp : (0 : Int) < 2 ^ (8 * k) := Int.pow_pos (by decide)
      generalize (2 : Int) ^ (8 * k) = p at *
      rw [Int.add_mul_ediv_right _ _ (by omega), Int.ediv_eq_zero_of_lt hv.1 hv.2]
      omega
    · have ih := byte_val f h n k (by omega)
      unfold byte at ih
      have hp : (0 : Int) < 2 ^ (8 * k) := Int.pow_pos (by decide)
      have ep : (2 : Int) ^ (8 * n) = 256 * 2 ^ (8 * (n - k - 1)) * 2 ^ (8 * k) := by
        rw [Int.mul_assoc, ← Int.pow_add, show (256 : Int) = 2 ^ 8 from rfl, ← Int.pow_add]
        congr 1
        omega
      rw [ep]
      generalize (2 : Int) ^ (8 * k) = p at *
      generalize (2 : Int) ^ (8 * (n - k - 1)) = q at *
      rw [show f n * (256 * q * p) = (f n * q * 256) * p by grind, Int.add_mul_ediv_right _ _ (by omega), Int.add_mul_emod_self_right]
      exact ih
/-- A number of n bytes is read, if they are there. -/
def rdn (n : Nat) (bs : List Int) : Option (Int × List Int) := if n ≤ bs.length then some (val (fun k => bs.getD k 0) n, bs.drop n) else none
theorem rdn_bytes (n : Nat) (v : Int) (rest : List Int) : rdn n (bytesOf n v ++ rest) = some (v % 2 ^ (8 * n), rest) := by
  unfold rdn
  rw [if_pos (by rw [List.length_append, bytesOf_len]; omega)]
  congr 2
  · rw [← val_byte v n]
    refine val_congr n fun k hk => ?_
    have e : (bytesOf n v ++ rest)[k]? = some (byte v k) := by rw [List.getElem?_append_left (by rw [bytesOf_len]; exact hk), bytesOf_at? n v k hk]
    simp [List.getD, e]
  · have := bytesOf_len n v
    simp [this]
theorem rdn_inv {n : Nat} {bs : List Int} {y : Int} {rest : List Int} (h : IsBytes bs) (e : rdn n bs = some (y, rest)) : bs = bytesOf n y ++ rest ∧ 0 ≤ y ∧ y < 2 ^ (8 * n) ∧ IsBytes rest := by
  unfold rdn at e
  by_cases hl : n ≤ bs.length
  · rw [if_pos hl] at e
    injection e with e
    injection e with e1 e2
    subst e1 e2
    have hb := val_lt (fun k => bs.getD k 0) h.get n
    refine ⟨?_, hb.1, hb.2, h.drop n⟩
    have e : bytesOf n (val (fun k => bs.getD k 0) n) = bs.take n := by
      apply List.ext_getElem?
      intro k
      by_cases hk : k < n
      · rw [bytesOf_at? n _ k hk, byte_val _ h.get n k hk, List.getElem?_take, if_pos hk]
        simp [List.getD, List.getElem?_eq_getElem (show k < bs.length by omega)]
      · rw [List.getElem?_eq_none (by rw [bytesOf_len]; omega), List.getElem?_eq_none (by rw [List.length_take]; omega)]
    rw [e, List.take_append_drop]
  · rw [if_neg hl] at e
    cases e
theorem rdn_none {n : Nat} {bs : List Int} (e : rdn n bs = none) : bs.length < n := by
  unfold rdn at e
  by_cases hl : n ≤ bs.length
  · rw [if_pos hl] at e; cases e
  · omega
theorem rdn_few {n : Nat} {bs : List Int} (h : bs.length < n) : rdn n bs = none := by unfold rdn; rw [if_neg (by omega)]
end Im
namespace Go.Proofs.Ytbihnmingedgfaa
open Go.RowKit Go.Shelf
set_option linter.unusedVariables false
set_option linter.unusedSimpArgs false

/-- Something was thrown, in words. -/
def Pan (e : Ending) : Prop := ∃ s : ByteArray, e = .panicked [{ v := .iface 9 (.string s), recovered := false }]
/-- What a layout leaves that reads into block P: what was read stands there, and the reader is behind it; or it was thrown. -/
def Got {α : Type} (b Bb Bp P : Nat) (t : TypeId) (size : Nat) (r : Option (α × List Int)) (f : α → Array Value) (w : World) (e : Ending) (w' : World) : Prop :=
  (∃ v rest, r = some (v, rest) ∧ e = .returned (.tuple #[]) ∧ Rd b Bb Bp rest w' ∧ Rk b Bb P w w' ∧ Box w' P t (f v)) ∨ (r = none ∧ Pan e ∧ Rk b Bb P w w' ∧ ∃ cs', Box w' P t cs' ∧ cs'.size = size)

theorem read_few (size : Nat) (z : Int) (hz : z = size) (v0 : Int) (bs : List Int) (b Bb Bp : Nat) (w : World) (hl : bs.length < size) (h : Rd b Bb Bp bs w) :
    Calls Try.prog 130 #[.int .i64 z, .int .u64 v0, .pointer (some ⟨Bp, 0, none⟩)] w fun e w' => Pan e ∧ w = w' := by
  obtain ⟨hp, A, c, hb, _, _⟩ := h
  have b0 := hb.cell 0
  have p0 := hp.cell 0
  have hz0 : ¬ z ≤ (bs.length : Int) := by omega
  generalize bs.length = n at *
  clear hb hp hl hz
  go_enter Try.func130, Try.ntmps130
  go_wp2_with (go_at_call 76; ((with_reducible refine (need_no _ _).mono ?_); rintro e w2 ⟨rfl, rfl⟩))
  first | exact ⟨rfl, ⟨_, rfl⟩, rfl⟩ | exact ⟨⟨_, rfl⟩, rfl⟩

theorem read_all (size : Nat) (z : Int) (hz : z = size) (v0 y : Int) (bs rest : List Int) (b Bb Bp : Nat) (w : World) (hs : 1 ≤ size ∧ size ≤ 8) (hB : Im.IsBytes bs) (hr : Im.rdn size bs = some (y, rest)) (hbB : b ≤ Bb) (h : Rd b Bb Bp bs w) :
    Calls Try.prog 130 #[.int .i64 z, .int .u64 v0, .pointer (some ⟨Bp, 0, none⟩)] w fun e w' => e = .returned (.int .u64 y) ∧ Rd b Bb Bp rest w' ∧ Wrote b Bb w w' := by
  obtain ⟨e, h0, h1, _⟩ := Im.rdn_inv hB hr
  subst e
  have := read_num size z hz v0 y rest b Bb Bp w hs hbB h
  rwa [Int.emod_eq_of_lt h0 h1] at this
set_option maxRecDepth 100000 in
set_option maxHeartbeats 1000000 in
theorem part_int (size : Nat) (z : Int) (hz : z = size) (x0 : Int) (P o : Nat) (t : TypeId) (cs : Array Value) (bs : List Int) (b Bb Bp : Nat) (w : World) (hs : 1 ≤ size ∧ size ≤ 4) (hBy : Im.IsBytes bs) (hbB : b ≤ Bb) (hbP : b ≤ P) (hbw : b ≤ w.heap.size) (h : Rd b Bb Bp bs w) (hP : Box w P t cs) (ho : cs[o]? = some (.int .i64 x0)) (h1 : t ≠ 54) (h2 : t ≠ 5) (h3 : t ≠ 120) :
    Calls Try.prog 124 #[.func (.func 130) #[] #[.pointer (some ⟨Bp, 0, none⟩)], .int .i64 z, .pointer (some ⟨P, o, none⟩)] w (Got b Bb Bp P t cs.size (Im.rdn size bs) (fun y => cs.setIfInBounds o (.int .i64 (y))) w) := by
  subst hz
  have HP := Lib.hid hP
  have k0 := hP.cell o
  rw [ho] at k0
  cases hr : Im.rdn size bs with
  | none =>
    have cr := fun v0 => Lib.hid (read_few size size rfl v0 bs b Bb Bp w (Im.rdn_none hr) h)
    clear h hP ho hs hr
    go_enter Try.func124, Try.ntmps124
    go_wp2_with (go_at_call 130; ((with_reducible refine ((cr _).out).mono ?_); rintro e w2 ⟨⟨s, rfl⟩, rfl⟩))
    first | exact ⟨rfl, .inr ⟨rfl, ⟨_, rfl⟩, Rk.refl _ _ _ _, _, HP.out, rfl⟩⟩ | exact .inr ⟨rfl, ⟨_, rfl⟩, Rk.refl _ _ _ _, _, HP.out, rfl⟩
  | some q =>
    obtain ⟨y, rest⟩ := q
    obtain ⟨_, y0, y1, _⟩ := Im.rdn_inv hBy hr
    have y2 : y < 2 ^ (8 * 4) := Int.lt_of_lt_of_le y1 (by have := Nat.pow_le_pow_right (show 0 < 2 by decide) (show 8 * size ≤ 8 * 4 by omega); exact_mod_cast this)
    have hwb : IntKind.i64.wrap y = y := by rw [IntKind.wrap_i64]; omega
    have cr := fun v0 => Lib.hid (read_all size size rfl v0 y bs rest b Bb Bp w (by omega) hBy hr hbB h)
    have HH := Lib.hid h.isvar
    have HO := Lib.hid ho
    have HB := Lib.hid hbP
    clear h hP ho hr y0 y1 y2
    go_enter Try.func124, Try.ntmps124
    go_wp2_with (go_at_call 130; ((with_reducible refine ((cr _).out).mono ?_); rintro e w1 ⟨rfl, hI1, hK1⟩; have P1 := Lib.hid (HP.out.wrote' hK1 HH.out h1 h2); have I1 := Lib.hid hI1; have K1 := Lib.hid hK1; have k1 := P1.out.cell o; rw [HO.out] at k1; have f1 := P1.out.free o; clear hI1 hK1 k0))
    go_end0
    exact .inl ⟨y, rest, rfl, rfl, I1.out.off (p := ⟨P, o, none⟩) P1.out h3 h1 HB.out _, ⟨(K1.out.to hbw).setCell HB.out _, ((Kb.refl (B := P) w).wrote K1.out HH.out).put o _⟩, by show Box _ _ _ (cs.setIfInBounds o (.int .i64 (y))); (try rw [hwb]); exact P1.out.put o _⟩
set_option maxRecDepth 100000 in
set_option maxHeartbeats 1000000 in
theorem part_u64 (size : Nat) (z : Int) (hz : z = size) (x0 : Int) (P o : Nat) (t : TypeId) (cs : Array Value) (bs : List Int) (b Bb Bp : Nat) (w : World) (hs : 1 ≤ size ∧ size ≤ 8) (hBy : Im.IsBytes bs) (hbB : b ≤ Bb) (hbP : b ≤ P) (hbw : b ≤ w.heap.size) (h : Rd b Bb Bp bs w) (hP : Box w P t cs) (ho : cs[o]? = some (.int .u64 x0)) (h1 : t ≠ 54) (h2 : t ≠ 5) (h3 : t ≠ 120) :
    Calls Try.prog 125 #[.func (.func 130) #[] #[.pointer (some ⟨Bp, 0, none⟩)], .int .i64 z, .pointer (some ⟨P, o, none⟩)] w (Got b Bb Bp P t cs.size (Im.rdn size bs) (fun y => cs.setIfInBounds o (.int .u64 (y))) w) := by
  subst hz
  have HP := Lib.hid hP
  have k0 := hP.cell o
  rw [ho] at k0
  cases hr : Im.rdn size bs with
  | none =>
    have cr := fun v0 => Lib.hid (read_few size size rfl v0 bs b Bb Bp w (Im.rdn_none hr) h)
    clear h hP ho hs hr
    go_enter Try.func125, Try.ntmps125
    go_wp2_with (go_at_call 130; ((with_reducible refine ((cr _).out).mono ?_); rintro e w2 ⟨⟨s, rfl⟩, rfl⟩))
    first | exact ⟨rfl, .inr ⟨rfl, ⟨_, rfl⟩, Rk.refl _ _ _ _, _, HP.out, rfl⟩⟩ | exact .inr ⟨rfl, ⟨_, rfl⟩, Rk.refl _ _ _ _, _, HP.out, rfl⟩
  | some q =>
    obtain ⟨y, rest⟩ := q
    obtain ⟨_, y0, y1, _⟩ := Im.rdn_inv hBy hr
    have y2 : y < 2 ^ (8 * 8) := Int.lt_of_lt_of_le y1 (by have := Nat.pow_le_pow_right (show 0 < 2 by decide) (show 8 * size ≤ 8 * 8 by omega); exact_mod_cast this)
    have hwb : IntKind.u64.wrap y = y := by rw [IntKind.wrap_u64]; omega
    have cr := fun v0 => Lib.hid (read_all size size rfl v0 y bs rest b Bb Bp w (by omega) hBy hr hbB h)
    have HH := Lib.hid h.isvar
    have HO := Lib.hid ho
    have HB := Lib.hid hbP
    clear h hP ho hr y0 y1 y2
    go_enter Try.func125, Try.ntmps125
    go_wp2_with (go_at_call 130; ((with_reducible refine ((cr _).out).mono ?_); rintro e w1 ⟨rfl, hI1, hK1⟩; have P1 := Lib.hid (HP.out.wrote' hK1 HH.out h1 h2); have I1 := Lib.hid hI1; have K1 := Lib.hid hK1; have k1 := P1.out.cell o; rw [HO.out] at k1; have f1 := P1.out.free o; clear hI1 hK1 k0))
    go_end0
    exact .inl ⟨y, rest, rfl, rfl, I1.out.off (p := ⟨P, o, none⟩) P1.out h3 h1 HB.out _, ⟨(K1.out.to hbw).setCell HB.out _, ((Kb.refl (B := P) w).wrote K1.out HH.out).put o _⟩, by show Box _ _ _ (cs.setIfInBounds o (.int .u64 (y))); (try rw [hwb]); exact P1.out.put o _⟩
set_option maxRecDepth 100000 in
set_option maxHeartbeats 1000000 in
theorem part_i32 (size : Nat) (z : Int) (hz : z = size) (x0 : Int) (P o : Nat) (t : TypeId) (cs : Array Value) (bs : List Int) (b Bb Bp : Nat) (w : World) (hs : 1 ≤ size ∧ size ≤ 4) (hBy : Im.IsBytes bs) (hbB : b ≤ Bb) (hbP : b ≤ P) (hbw : b ≤ w.heap.size) (h : Rd b Bb Bp bs w) (hP : Box w P t cs) (ho : cs[o]? = some (.int .i32 x0)) (h1 : t ≠ 54) (h2 : t ≠ 5) (h3 : t ≠ 120) :
    Calls Try.prog 161 #[.func (.func 130) #[] #[.pointer (some ⟨Bp, 0, none⟩)], .int .i64 z, .pointer (some ⟨P, o, none⟩)] w (Got b Bb Bp P t cs.size (Im.rdn size bs) (fun y => cs.setIfInBounds o (.int .i32 (IntKind.i32.wrap y))) w) := by
  subst hz
  have HP := Lib.hid hP
  have k0 := hP.cell o
  rw [ho] at k0
  cases hr : Im.rdn size bs with
  | none =>
    have cr := fun v0 => Lib.hid (read_few size size rfl v0 bs b Bb Bp w (Im.rdn_none hr) h)
    clear h hP ho hs hr
    go_enter Try.func161, Try.ntmps161
    go_wp2_with (go_at_call 130; ((with_reducible refine ((cr _).out).mono ?_); rintro e w2 ⟨⟨s, rfl⟩, rfl⟩))
    first | exact ⟨rfl, .inr ⟨rfl, ⟨_, rfl⟩, Rk.refl _ _ _ _, _, HP.out, rfl⟩⟩ | exact .inr ⟨rfl, ⟨_, rfl⟩, Rk.refl _ _ _ _, _, HP.out, rfl⟩
  | some q =>
    obtain ⟨y, rest⟩ := q
    obtain ⟨_, y0, y1, _⟩ := Im.rdn_inv hBy hr
    have y2 : y < 2 ^ (8 * 4) := Int.lt_of_lt_of_le y1 (by have := Nat.pow_le_pow_right (show 0 < 2 by decide) (show 8 * size ≤ 8 * 4 by omega); exact_mod_cast this)
    obtain ⟨qy, hwb⟩ : ∃ qy, IntKind.i32.wrap y = qy := ⟨_, rfl⟩
    have cr := fun v0 => Lib.hid (read_all size size rfl v0 y bs rest b Bb Bp w (by omega) hBy hr hbB h)
    have HH := Lib.hid h.isvar
    have HO := Lib.hid ho
    have HB := Lib.hid hbP
    clear h hP ho hr y0 y1 y2
    go_enter Try.func161, Try.ntmps161
    go_wp2_with (go_at_call 130; ((with_reducible refine ((cr _).out).mono ?_); rintro e w1 ⟨rfl, hI1, hK1⟩; have P1 := Lib.hid (HP.out.wrote' hK1 HH.out h1 h2); have I1 := Lib.hid hI1; have K1 := Lib.hid hK1; have k1 := P1.out.cell o; rw [HO.out] at k1; have f1 := P1.out.free o; clear hI1 hK1 k0))
    go_end0
    exact .inl ⟨y, rest, rfl, rfl, I1.out.off (p := ⟨P, o, none⟩) P1.out h3 h1 HB.out _, ⟨(K1.out.to hbw).setCell HB.out _, ((Kb.refl (B := P) w).wrote K1.out HH.out).put o _⟩, by show Box _ _ _ (cs.setIfInBounds o (.int .i32 (IntKind.i32.wrap y))); (try rw [hwb]); exact P1.out.put o _⟩
set_option maxRecDepth 100000 in
set_option maxHeartbeats 1000000 in
theorem part_i8 (size : Nat) (z : Int) (hz : z = size) (x0 : Int) (P o : Nat) (t : TypeId) (cs : Array Value) (bs : List Int) (b Bb Bp : Nat) (w : World) (hs : 1 ≤ size ∧ size ≤ 1) (hBy : Im.IsBytes bs) (hbB : b ≤ Bb) (hbP : b ≤ P) (hbw : b ≤ w.heap.size) (h : Rd b Bb Bp bs w) (hP : Box w P t cs) (ho : cs[o]? = some (.int .i8 x0)) (h1 : t ≠ 54) (h2 : t ≠ 5) (h3 : t ≠ 120) :
    Calls Try.prog 162 #[.func (.func 130) #[] #[.pointer (some ⟨Bp, 0, none⟩)], .int .i64 z, .pointer (some ⟨P, o, none⟩)] w (Got b Bb Bp P t cs.size (Im.rdn size bs) (fun y => cs.setIfInBounds o (.int .i8 (IntKind.i8.wrap y))) w) := by
  subst hz
  have HP := Lib.hid hP
  have k0 := hP.cell o
  rw [ho] at k0
  cases hr : Im.rdn size bs with
  | none =>
    have cr := fun v0 => Lib.hid (read_few size size rfl v0 bs b Bb Bp w (Im.rdn_none hr) h)
    clear h hP ho hs hr
    go_enter Try.func162, Try.ntmps162
    go_wp2_with (go_at_call 130; ((with_reducible refine ((cr _).out).mono ?_); rintro e w2 ⟨⟨s, rfl⟩, rfl⟩))
    first | exact ⟨rfl, .inr ⟨rfl, ⟨_, rfl⟩, Rk.refl _ _ _ _, _, HP.out, rfl⟩⟩ | exact .inr ⟨rfl, ⟨_, rfl⟩, Rk.refl _ _ _ _, _, HP.out, rfl⟩
  | some q =>
    obtain ⟨y, rest⟩ := q
    obtain ⟨_, y0, y1, _⟩ := Im.rdn_inv hBy hr
    have y2 : y < 2 ^ (8 * 1) := Int.lt_of_lt_of_le y1 (by have := Nat.pow_le_pow_right (show 0 < 2 by decide) (show 8 * size ≤ 8 * 1 by omega); exact_mod_cast this)
    obtain ⟨qy, hwb⟩ : ∃ qy, IntKind.i8.wrap y = qy := ⟨_, rfl⟩
    have cr := fun v0 => Lib.hid (read_all size size rfl v0 y bs rest b Bb Bp w (by omega) hBy hr hbB h)
    have HH := Lib.hid h.isvar
    have HO := Lib.hid ho
    have HB := Lib.hid hbP
    clear h hP ho hr y0 y1 y2
    go_enter Try.func162, Try.ntmps162
    go_wp2_with (go_at_call 130; ((with_reducible refine ((cr _).out).mono ?_); rintro e w1 ⟨rfl, hI1, hK1⟩; have P1 := Lib.hid (HP.out.wrote' hK1 HH.out h1 h2); have I1 := Lib.hid hI1; have K1 := Lib.hid hK1; have k1 := P1.out.cell o; rw [HO.out] at k1; have f1 := P1.out.free o; clear hI1 hK1 k0))
    go_end0
    exact .inl ⟨y, rest, rfl, rfl, I1.out.off (p := ⟨P, o, none⟩) P1.out h3 h1 HB.out _, ⟨(K1.out.to hbw).setCell HB.out _, ((Kb.refl (B := P) w).wrote K1.out HH.out).put o _⟩, by show Box _ _ _ (cs.setIfInBounds o (.int .i8 (IntKind.i8.wrap y))); (try rw [hwb]); exact P1.out.put o _⟩
set_option maxRecDepth 100000 in
set_option maxHeartbeats 1000000 in
theorem part_u8 (size : Nat) (z : Int) (hz : z = size) (x0 : Int) (P o : Nat) (t : TypeId) (cs : Array Value) (bs : List Int) (b Bb Bp : Nat) (w : World) (hs : 1 ≤ size ∧ size ≤ 1) (hBy : Im.IsBytes bs) (hbB : b ≤ Bb) (hbP : b ≤ P) (hbw : b ≤ w.heap.size) (h : Rd b Bb Bp bs w) (hP : Box w P t cs) (ho : cs[o]? = some (.int .u8 x0)) (h1 : t ≠ 54) (h2 : t ≠ 5) (h3 : t ≠ 120) :
    Calls Try.prog 163 #[.func (.func 130) #[] #[.pointer (some ⟨Bp, 0, none⟩)], .int .i64 z, .pointer (some ⟨P, o, none⟩)] w (Got b Bb Bp P t cs.size (Im.rdn size bs) (fun y => cs.setIfInBounds o (.int .u8 (y))) w) := by
  subst hz
  have HP := Lib.hid hP
  have k0 := hP.cell o
  rw [ho] at k0
  cases hr : Im.rdn size bs with
  | none =>
    have cr := fun v0 => Lib.hid (read_few size size rfl v0 bs b Bb Bp w (Im.rdn_none hr) h)
    clear h hP ho hs hr
    go_enter Try.func163, Try.ntmps163
    go_wp2_with (go_at_call 130; ((with_reducible refine ((cr _).out).mono ?_); rintro e w2 ⟨⟨s, rfl⟩, rfl⟩))
    first | exact ⟨rfl, .inr ⟨rfl, ⟨_, rfl⟩, Rk.refl _ _ _ _, _, HP.out, rfl⟩⟩ | exact .inr ⟨rfl, ⟨_, rfl⟩, Rk.refl _ _ _ _, _, HP.out, rfl⟩
  | some q =>
    obtain ⟨y, rest⟩ := q
    obtain ⟨_, y0, y1, _⟩ := Im.rdn_inv hBy hr
    have y2 : y < 2 ^ (8 * 1) := Int.lt_of_lt_of_le y1 (by have := Nat.pow_le_pow_right (show 0 < 2 by decide) (show 8 * size ≤ 8 * 1 by omega); exact_mod_cast this)
    have hwb : IntKind.u8.wrap y = y := by rw [IntKind.wrap_u8]; omega
    have cr := fun v0 => Lib.hid (read_all size size rfl v0 y bs rest b Bb Bp w (by omega) hBy hr hbB h)
    have HH := Lib.hid h.isvar
    have HO := Lib.hid ho
    have HB := Lib.hid hbP
    clear h hP ho hr y0 y1 y2
    go_enter Try.func163, Try.ntmps163
    go_wp2_with (go_at_call 130; ((with_reducible refine ((cr _).out).mono ?_); rintro e w1 ⟨rfl, hI1, hK1⟩; have P1 := Lib.hid (HP.out.wrote' hK1 HH.out h1 h2); have I1 := Lib.hid hI1; have K1 := Lib.hid hK1; have k1 := P1.out.cell o; rw [HO.out] at k1; have f1 := P1.out.free o; clear hI1 hK1 k0))
    go_end0
    exact .inl ⟨y, rest, rfl, rfl, I1.out.off (p := ⟨P, o, none⟩) P1.out h3 h1 HB.out _, ⟨(K1.out.to hbw).setCell HB.out _, ((Kb.refl (B := P) w).wrote K1.out HH.out).put o _⟩, by show Box _ _ _ (cs.setIfInBounds o (.int .u8 (y))); (try rw [hwb]); exact P1.out.put o _⟩
end Go.Proofs.Ytbihnmingedgfaa

/-
States out of bytes, plainly.
-/





namespace Go.Proofs.Ytbihnmingedgfaa
namespace Im
open Go Go.RowKit _root_.Im
set_option linter.unusedVariables false
set_option linter.unusedSimpArgs false

def decParts : Nat → List Int → List Int → Option (List Int × List Int)
  | 0, l, bs => some (l, bs)
  | n + 1, l, bs => (rdn 4 bs).bind fun q => decParts n (l ++ [IntKind.i32.wrap q.1]) q.2
def decShip (bs : List Int) : Option (Gm.Ship × List Int) :=
  (rdn 1 bs).bind fun o => if o.1 = 0 then some (Gm.Ship.none, o.2) else if o.1 = 1 then (decParts 4 [] o.2).bind fun f => (rdn 1 f.2).bind fun c => (rdn 4 c.2).bind fun s => some (⟨true, f.1.getD 0 0, f.1.getD 1 0, f.1.getD 2 0, f.1.getD 3 0, c.1, s.1⟩, s.2) else none
def decShips : Nat → Nat → (Nat → Gm.Ship) → List Int → Option ((Nat → Gm.Ship) × List Int)
  | _, 0, f, bs => some (f, bs)
  | k, n + 1, f, bs => (decShip bs).bind fun q => decShips (k + 1) n (Gm.upd f k q.1) q.2
def decShot (bs : List Int) : Option (Gm.Shot × List Int) :=
  (rdn 1 bs).bind fun o => (decParts 4 [] o.2).bind fun f => (rdn 1 f.2).bind fun t => some (⟨o.1, f.1.getD 0 0, f.1.getD 1 0, f.1.getD 2 0, f.1.getD 3 0, t.1⟩, t.2)
def decShots : Nat → List Gm.Shot → List Int → Option (List Gm.Shot × List Int)
  | 0, l, bs => some (l, bs)
  | n + 1, l, bs => (decShot bs).bind fun q => decShots n (l ++ [q.1]) q.2
def decRow (bs : List Int) : Option (List Gm.Shot × List Int) := (rdn 1 bs).bind fun n => decShots n.1.toNat [] n.2
def setSeat (r : Ros.R) (k : Nat) (p g : Int) : Ros.R := { r with peer := Ros.upd r.peer k p, gen := Ros.upd r.gen k g }
def decSeat (bs : List Int) : Option ((Int × Int) × List Int) := (rdn 1 bs).bind fun p => (rdn 2 p.2).bind fun g => some ((p.1 - 1, g.1), g.2)
def decSeats : Nat → Nat → Ros.R → List Int → Option (Ros.R × List Int)
  | _, 0, r, bs => some (r, bs)
  | k, n + 1, r, bs => (decSeat bs).bind fun q => decSeats (k + 1) n (setSeat r k q.1.1 q.1.2) q.2
def ships0 : Nat → Gm.Ship := fun _ => Gm.Ship.none
def dec (bs : List Int) : Option ((Gm.G × Ros.R) × List Int) :=
  (rdn 4 bs).bind fun f => (rdn 8 f.2).bind fun d => (decShips 0 8 ships0 d.2).bind fun s => (decRow s.2).bind fun l => (rdn 4 l.2).bind fun v => (decSeats 0 8 { R0 with version := v.1 } v.2).bind fun r => some ((⟨f.1, d.1, s.1, l.1⟩, r.1), r.2)
open Classical in
noncomputable def get (bs : List Int) : Option (Gm.G × Ros.R) := (dec bs).bind fun q => if q.2 = [] ∧ Ok q.1.1 q.1.2 then some q.1 else none

/-! What is put is read. -/
theorem mod1 {x : Int} (h : 0 ≤ x ∧ x < 256) : x % 2 ^ (8 * 1) = x := by omega
theorem back32 {x : Int} (h : -2147483648 ≤ x ∧ x ≤ 2147483647) : IntKind.i32.wrap (IntKind.u64.wrap x % 2 ^ (8 * 4)) = x := by rw [IntKind.wrap_u64, IntKind.wrap_i32]; omega
def parts' (l : List Int) : List Int := l.flatMap fun x => bytesOf 4 (IntKind.u64.wrap x)
theorem flight_parts (f : Nat → Int) : flight f 4 = parts' [f 0, f 1, f 2, f 3] := by simp [flight, parts']
theorem decParts_put : ∀ (l a rest : List Int), (∀ x ∈ l, -2147483648 ≤ x ∧ x ≤ 2147483647) → decParts l.length a (parts' l ++ rest) = some (a ++ l, rest)
  | [], a, rest, _ => by simp [decParts, parts']
  | x :: l, a, rest, h => by
    have e : parts' (x :: l) ++ rest = bytesOf 4 (IntKind.u64.wrap x) ++ (parts' l ++ rest) := by simp [parts']
    rw [e]
    show (rdn 4 (bytesOf 4 (IntKind.u64.wrap x) ++ (parts' l ++ rest))).bind _ = _
    rw [rdn_bytes, Option.bind_some, back32 (h x (by simp)), decParts_put l (a ++ [x]) rest fun u hu => h u (by simp [hu])]
    simp
theorem decShip_put {s : Gm.Ship} (h : Gm.okShip s) (rest : List Int) : decShip (ship s ++ rest) = some (s, rest) := by
  have ty := h.ty
  obtain ⟨h0, _, _, _, _, h5, h6, h7, h8⟩ := h
  obtain ⟨t1, t2, t3, t4, _, _⟩ := ty
  cases hon : s.on
  · have hs : s = Gm.Ship.none := by
      rcases h0 with h0 | h0
      · rw [hon] at h0; cases h0
      · exact h0
    subst hs
    show (rdn 1 (bytesOf 1 0 ++ rest)).bind _ = _
    rw [rdn_bytes, Option.bind_some]
    dsimp only
    rw [if_pos (by decide)]
  · unfold ship
    rw [if_pos hon, flight_parts]
    unfold decShip
    simp only [List.append_assoc]
    rw [rdn_bytes, Option.bind_some]
    dsimp only
    rw [if_neg (by decide), if_pos (by decide)]
    have := decParts_put [s.x, s.y, s.vx, s.vy] [] (bytesOf 1 s.cool ++ (bytesOf 4 s.score ++ rest)) (by
      intro x hx
      simp only [List.mem_cons, List.not_mem_nil, or_false] at hx
      unfold Gm.i32 at *
      rcases hx with rfl | rfl | rfl | rfl <;> assumption)
    rw [show ([s.x, s.y, s.vx, s.vy] : List Int).length = 4 from rfl] at this
    (try dsimp only)
    rw [this, Option.bind_some, rdn_bytes, Option.bind_some, rdn_bytes, Option.bind_some]
    dsimp only
    rw [mod1 (by omega), show s.score % 2 ^ (8 * 4) = s.score by omega]
    obtain ⟨on, x, y, vx, vy, c, sc⟩ := s
    dsimp only at hon
    subst hon
    rfl
theorem decShips_put (g : Nat → Gm.Ship) : ∀ (n k : Nat) (f : Nat → Gm.Ship) (rest : List Int), (∀ i, k ≤ i → i < k + n → Gm.okShip (g i)) →
    ∃ f', decShips k n f (shipsFrom g k n ++ rest) = some (f', rest) ∧ (∀ i, k ≤ i → i < k + n → f' i = g i) ∧ (∀ i, i < k ∨ k + n ≤ i → f' i = f i)
  | 0, k, f, rest, _ => ⟨f, rfl, fun i _ _ => by omega, fun _ _ => rfl⟩
  | n + 1, k, f, rest, h => by
    unfold decShips shipsFrom
    rw [List.append_assoc, decShip_put (h k (by omega) (by omega)), Option.bind_some]
    obtain ⟨f', h1, h2, h3⟩ := decShips_put g n (k + 1) (Gm.upd f k (g k)) rest fun i a b => h i (by omega) (by omega)
    refine ⟨f', h1, fun i a b => ?_, fun i a => ?_⟩
    · by_cases e : i = k
      · subst e; rw [h3 i (by omega), Gm.upd_same]
      · exact h2 i (by omega) (by omega)
    · rw [h3 i (by omega), Gm.upd_other _ _ (by omega)]
theorem decShot_put {s : Gm.Shot} (h : Gm.okShot s) (rest : List Int) : decShot (shot s ++ rest) = some (s, rest) := by
  have ty := h.ty
  obtain ⟨h1, h2, _, _, _, _, h7, h8⟩ := h
  obtain ⟨_, t1, t2, t3, t4, _⟩ := ty
  unfold shot decShot
  rw [flight_parts]
  simp only [List.append_assoc]
  have := decParts_put [s.x, s.y, s.vx, s.vy] [] (bytesOf 1 s.left ++ rest) (by
    intro x hx
    simp only [List.mem_cons, List.not_mem_nil, or_false] at hx
    unfold Gm.i32 at *
    rcases hx with rfl | rfl | rfl | rfl <;> assumption)
  rw [show ([s.x, s.y, s.vx, s.vy] : List Int).length = 4 from rfl] at this
  rw [rdn_bytes, Option.bind_some]
  dsimp only
  rw [this, Option.bind_some, rdn_bytes, Option.bind_some]
  dsimp only
  rw [mod1 (by omega), mod1 (by omega)]
  rfl
theorem decShots_put : ∀ (l a : List Gm.Shot) (rest : List Int), (∀ s ∈ l, Gm.okShot s) → decShots l.length a (shots l ++ rest) = some (a ++ l, rest)
  | [], a, rest, _ => by simp [decShots, shots]
  | s :: l, a, rest, h => by
    have e : shots (s :: l) ++ rest = shot s ++ (shots l ++ rest) := by simp [shots]
    rw [e]
    show (decShot (shot s ++ (shots l ++ rest))).bind _ = _
    rw [decShot_put (h s (by simp)), Option.bind_some, decShots_put l (a ++ [s]) rest fun u hu => h u (by simp [hu])]
    simp
theorem decSeats_put (q : Ros.R) : ∀ (n k : Nat) (r : Ros.R) (rest : List Int), (∀ i, k ≤ i → i < k + n → Ros.OkSeat q i) →
    ∃ r', decSeats k n r (seatsFrom q k n ++ rest) = some (r', rest) ∧ r'.version = r.version ∧ (∀ i, k ≤ i → i < k + n → r'.peer i = q.peer i ∧ r'.gen i = q.gen i) ∧ (∀ i, i < k ∨ k + n ≤ i → r'.peer i = r.peer i ∧ r'.gen i = r.gen i)
  | 0, k, r, rest, _ => ⟨r, rfl, rfl, fun i _ _ => by omega, fun _ _ => ⟨rfl, rfl⟩⟩
  | n + 1, k, r, rest, h => by
    have hk := h k (by omega) (by omega)
    unfold Ros.OkSeat at hk
    unfold decSeats seatsFrom decSeat
    simp only [List.append_assoc]
    rw [rdn_bytes, Option.bind_some]
    dsimp only
    rw [rdn_bytes, Option.bind_some, Option.bind_some]
    dsimp only
    rw [mod1 (by omega), show q.gen k % 2 ^ (8 * 2) = q.gen k by omega, show q.peer k + 1 - 1 = q.peer k by omega]
    obtain ⟨r', h1, hv, h2, h3⟩ := decSeats_put q n (k + 1) (setSeat r k (q.peer k) (q.gen k)) rest fun i a b => h i (by omega) (by omega)
    refine ⟨r', h1, hv, fun i a b => ?_, fun i a => ?_⟩
    · by_cases e : i = k
      · subst e
        rw [(h3 i (by omega)).1, (h3 i (by omega)).2]
        exact ⟨Ros.upd_same _ _ _, Ros.upd_same _ _ _⟩
      · exact h2 i (by omega) (by omega)
    · rw [(h3 i (by omega)).1, (h3 i (by omega)).2]
      exact ⟨Ros.upd_other _ _ (by omega), Ros.upd_other _ _ (by omega)⟩
/-- Two states in all parts. -/
def Like (g : Gm.G) (r : Ros.R) (g' : Gm.G) (r' : Ros.R) : Prop := Gm.Eq g g' ∧ r.version = r'.version ∧ ∀ k, k < 8 → r.peer k = r'.peer k ∧ r.gen k = r'.gen k
theorem Like.refl (g : Gm.G) (r : Ros.R) : Like g r g r := ⟨Gm.Eq.refl g, rfl, fun _ _ => ⟨rfl, rfl⟩⟩
theorem Like.symm {g g' : Gm.G} {r r' : Ros.R} (h : Like g r g' r') : Like g' r' g r := ⟨⟨h.1.1.symm, h.1.2.1.symm, fun i hi => (h.1.2.2.1 i hi).symm, h.1.2.2.2.symm⟩, h.2.1.symm, fun k hk => ⟨(h.2.2 k hk).1.symm, (h.2.2 k hk).2.symm⟩⟩
theorem Ok.like {g g' : Gm.G} {r r' : Ros.R} (h : Ok g r) (k : Like g r g' r') : Ok g' r' := by
  obtain ⟨⟨a1, a2, a3, a4, a5⟩, h2, h3⟩ := h
  obtain ⟨⟨k1, k2, k3, k4⟩, k5, k6⟩ := k
  obtain ⟨b1, b2, b3⟩ := Ros.ok_iff.1 h2
  refine ⟨⟨by omega, by omega, by rw [← k4]; exact a3, fun i hi => by rw [← k3 i hi]; exact a4 i hi, ?_⟩, Ros.ok_iff.2 ⟨by omega, fun i hi => ?_, fun i j hij hj => ?_⟩, fun i hi => ?_⟩
  · rw [← k4]; exact a5
  · have := b2 i hi
    unfold Ros.OkSeat at *
    rw [← (k6 i hi).1, ← (k6 i hi).2]
    exact this
  · rw [← (k6 i (by omega)).1, ← (k6 j hj).1]
    exact b3 i j hij hj
  · rw [← k3 i hi, ← (k6 i hi).1]
    exact h3 i hi
theorem ships_congr {f g : Nat → Gm.Ship} : ∀ k, (∀ i, i < k → f i = g i) → ships f k = ships g k
  | 0, _ => rfl
  | k + 1, h => by unfold ships; rw [ships_congr k fun i hi => h i (by omega), h k (by omega)]
theorem seats_congr {q r : Ros.R} : ∀ k, (∀ i, i < k → q.peer i = r.peer i ∧ q.gen i = r.gen i) → seats q k = seats r k
  | 0, _ => rfl
  | k + 1, h => by unfold seats; rw [seats_congr k fun i hi => h i (by omega), (h k (by omega)).1, (h k (by omega)).2]
theorem put_like {g g' : Gm.G} {r r' : Ros.R} (k : Like g r g' r') : put g r = put g' r' := by
  obtain ⟨⟨k1, k2, k3, k4⟩, k5, k6⟩ := k
  unfold put
  rw [k1, k2, ships_congr 8 k3, k4, k5, seats_congr 8 k6]
theorem cells_like {g g' : Gm.G} {r r' : Ros.R} (k : Like g r g' r') (s : Value) : cells g s r = cells g' s r' := by
  obtain ⟨⟨k1, k2, k3, k4⟩, k5, k6⟩ := k
  unfold cells
  rw [Ros.cells_congr k5 (fun i hi => (k6 i hi).1) (fun i hi => (k6 i hi).2)]
  refine congrArg (· ++ Ros.cells r') ?_
  unfold Gm.cells Gm.shipCells
  rw [k1, k2, k3 0 (by omega), k3 1 (by omega), k3 2 (by omega), k3 3 (by omega), k3 4 (by omega), k3 5 (by omega), k3 6 (by omega), k3 7 (by omega)]
theorem put_from (g : Gm.G) (r : Ros.R) : put g r = bytesOf 4 g.frame ++ (bytesOf 8 g.dice ++ (shipsFrom g.ship 0 8 ++ (bytesOf 1 g.shots.length ++ (shots g.shots ++ (bytesOf 4 r.version ++ seatsFrom r 0 8))))) := by
  have e1 := ships_from g.ship 8 0
  have e2 := seats_from r 8 0
  rw [show 0 + 8 = 8 from rfl, show ships g.ship 0 = [] from rfl, List.nil_append] at e1
  rw [show 0 + 8 = 8 from rfl, show seats r 0 = [] from rfl, List.nil_append] at e2
  unfold put
  rw [← e1, ← e2]
  simp only [List.append_assoc]
theorem dec_put {g : Gm.G} {r : Ros.R} (h : Ok g r) (hd : 0 ≤ g.dice ∧ g.dice ≤ 18446744073709551615) (rest : List Int) : ∃ g' r', dec (put g r ++ rest) = some ((g', r'), rest) ∧ Like g r g' r' := by
  obtain ⟨⟨a1, a2, a3, a4, a5⟩, h2, h3⟩ := h
  obtain ⟨f', e1, e2, e3⟩ := decShips_put g.ship 8 0 ships0 (bytesOf 1 g.shots.length ++ (shots g.shots ++ (bytesOf 4 r.version ++ (seatsFrom r 0 8 ++ rest)))) fun i _ hi => a4 i (by omega)
  obtain ⟨r', s1, s2, s3, s4⟩ := decSeats_put r 8 0 { R0 with version := r.version } rest fun i _ hi => h2.seat i (by omega)
  have hv := h2.1
  refine ⟨⟨g.frame, g.dice, f', g.shots⟩, r', ?_, ⟨rfl, rfl, fun i hi => (e2 i (by omega) (by omega)).symm, rfl⟩, s2.symm, fun i hi => ⟨(s3 i (by omega) (by omega)).1.symm, (s3 i (by omega) (by omega)).2.symm⟩⟩
  rw [put_from]
  unfold dec decRow
  simp only [List.append_assoc]
  rw [rdn_bytes, Option.bind_some]
  dsimp only
  rw [rdn_bytes, Option.bind_some]
  dsimp only
  rw [e1, Option.bind_some]
  dsimp only
  rw [rdn_bytes, Option.bind_some]
  dsimp only
  rw [show (g.shots.length : Int) % 2 ^ (8 * 1) = g.shots.length by omega, Int.toNat_natCast, decShots_put _ _ _ (fun s hs => by
    obtain ⟨i, hi, rfl⟩ := List.getElem_of_mem hs
    exact a5 i hi), Option.bind_some]
  dsimp only
  rw [rdn_bytes, Option.bind_some]
  dsimp only
  rw [show r.version % 2 ^ (8 * 4) = r.version by omega, s1, Option.bind_some]
  dsimp only
  rw [show g.frame % 2 ^ (8 * 4) = g.frame by omega, show g.dice % 2 ^ (8 * 8) = g.dice by omega, List.nil_append]

/-! What is read was put. -/
theorem bytes32 {y : Int} (h : 0 ≤ y ∧ y < 2 ^ (8 * 4)) : bytesOf 4 (IntKind.u64.wrap (IntKind.i32.wrap y)) = bytesOf 4 y := by
  have e : ∀ v : Int, bytesOf 4 v = [v % 256, v / 256 % 256, v / 65536 % 256, v / 16777216 % 256] := fun v => by
    simp [bytesOf]
  rw [e, e, wrap_u64', IntKind.wrap_i32]
  simp only [List.cons.injEq, and_true]
  omega
theorem decParts_inv : ∀ (n : Nat) (a l bs rest : List Int), IsBytes bs → decParts n a bs = some (l, rest) → ∃ l', l = a ++ l' ∧ l'.length = n ∧ bs = parts' l' ++ rest ∧ IsBytes rest ∧ ∀ x ∈ l', -2147483648 ≤ x ∧ x ≤ 2147483647
  | 0, a, l, bs, rest, hB, h => by
    unfold decParts at h
    injection h with h
    injection h with e1 e2
    subst e1 e2
    exact ⟨[], by simp, rfl, rfl, hB, fun _ h => by cases h⟩
  | n + 1, a, l, bs, rest, hB, h => by
    unfold decParts at h
    obtain ⟨⟨y, b1⟩, h1, hq⟩ := Option.bind_eq_some_iff.1 h
    clear h
    obtain ⟨rfl, y0, y1, B1⟩ := rdn_inv hB h1
    obtain ⟨l', rfl, h2, h3, B2, t2⟩ := decParts_inv n _ l _ rest B1 hq
    subst h3
    refine ⟨IntKind.i32.wrap y :: l', by simp, by simp [h2], ?_, B2, fun u hu => ?_⟩
    · have e : parts' (IntKind.i32.wrap y :: l') = bytesOf 4 (IntKind.u64.wrap (IntKind.i32.wrap y)) ++ parts' l' := by simp [parts']
      rw [e, bytes32 ⟨y0, y1⟩, List.append_assoc]
    · rcases List.mem_cons.1 hu with rfl | hu
      · rw [IntKind.wrap_i32]; omega
      · exact t2 u hu
theorem four {l : List Int} (h : l.length = 4) : l = [l.getD 0 0, l.getD 1 0, l.getD 2 0, l.getD 3 0] := by
  match l, h with
  | [a, b, c, d], _ => rfl
theorem decShip_inv {bs rest : List Int} {s : Gm.Ship} (hB : IsBytes bs) (h : decShip bs = some (s, rest)) : bs = ship s ++ rest ∧ IsBytes rest ∧ Gm.tyShip s := by
  unfold decShip at h
  obtain ⟨⟨o, b1⟩, h1, h2⟩ := Option.bind_eq_some_iff.1 h
  clear h
  obtain ⟨rfl, o0, o1, B1⟩ := rdn_inv hB h1
  dsimp only at h2
  split at h2
  · rename_i ho
    injection h2 with h2
    injection h2 with e1 e2
    subst e1 e2 ho
    exact ⟨rfl, B1, by unfold Gm.tyShip Gm.i32 Gm.i64 Gm.Ship.none; dsimp only; omega⟩
  · split at h2
    · rename_i ho
      obtain ⟨⟨f, b2⟩, h3, h4⟩ := Option.bind_eq_some_iff.1 h2
      clear h2
      obtain ⟨⟨c, b3⟩, h5, h6⟩ := Option.bind_eq_some_iff.1 h4
      clear h4
      obtain ⟨⟨sc, b4⟩, h7, h8⟩ := Option.bind_eq_some_iff.1 h6
      clear h6
      injection h8 with h8
      injection h8 with e1 e2
      subst e1 e2 ho
      obtain ⟨l', e0, hl, rfl, B2, t2⟩ := decParts_inv _ _ _ _ _ B1 h3
      rw [List.nil_append] at e0
      subst e0
      obtain ⟨rfl, c0, c1, B3⟩ := rdn_inv B2 h5
      obtain ⟨rfl, s0, s1, B4⟩ := rdn_inv B3 h7
      refine ⟨?_, B4, ?_⟩
      · unfold ship
        rw [if_pos rfl, flight_parts]
        dsimp only
        conv => lhs; rw [four hl]
        simp only [List.append_assoc]
      · have hm : ∀ i, i < 4 → -2147483648 ≤ f.getD i 0 ∧ f.getD i 0 ≤ 2147483647 := fun i hi => by
          have e : f.getD i 0 = f[i]'(by omega) := by simp [List.getD, show i < f.length by omega]
          rw [e]
          exact t2 _ (List.getElem_mem _)
        exact ⟨hm 0 (by omega), hm 1 (by omega), hm 2 (by omega), hm 3 (by omega), by unfold Gm.i64; dsimp only at *; omega, by unfold Gm.i64; dsimp only at *; omega⟩
    · cases h2
theorem decShips_inv : ∀ (n k : Nat) (g f : Nat → Gm.Ship) (bs rest : List Int), IsBytes bs → decShips k n g bs = some (f, rest) →
    bs = shipsFrom f k n ++ rest ∧ IsBytes rest ∧ (∀ i, k ≤ i → i < k + n → Gm.tyShip (f i)) ∧ ∀ i, i < k ∨ k + n ≤ i → f i = g i
  | 0, k, g, f, bs, rest, hB, h => by
    unfold decShips at h
    injection h with h
    injection h with e1 e2
    subst e1 e2
    exact ⟨rfl, hB, fun i _ _ => by omega, fun _ _ => rfl⟩
  | n + 1, k, g, f, bs, rest, hB, h => by
    unfold decShips at h
    obtain ⟨⟨s, b1⟩, h1, hq⟩ := Option.bind_eq_some_iff.1 h
    clear h
    obtain ⟨rfl, B1, t1⟩ := decShip_inv hB h1
    obtain ⟨h2, B2, h3, h4⟩ := decShips_inv n (k + 1) (Gm.upd g k s) f b1 rest B1 hq
    have hk : f k = s := (h4 k (by omega)).trans (Gm.upd_same _ _ _)
    refine ⟨?_, B2, fun i a b => ?_, fun i a => ?_⟩
    · rw [h2]
      conv => rhs; unfold shipsFrom
      rw [hk, List.append_assoc]
    · by_cases e : i = k
      · subst e; rw [hk]; exact t1
      · exact h3 i (by omega) (by omega)
    · rw [h4 i (by omega), Gm.upd_other _ _ (by omega)]
theorem decShot_inv {bs rest : List Int} {s : Gm.Shot} (hB : IsBytes bs) (h : decShot bs = some (s, rest)) : bs = shot s ++ rest ∧ IsBytes rest ∧ Gm.tyShot s := by
  unfold decShot at h
  obtain ⟨⟨o, b1⟩, h1, h2⟩ := Option.bind_eq_some_iff.1 h
  clear h
  obtain ⟨⟨f, b2⟩, h3, h4⟩ := Option.bind_eq_some_iff.1 h2
  clear h2
  obtain ⟨⟨t, b3⟩, h5, h6⟩ := Option.bind_eq_some_iff.1 h4
  clear h4
  injection h6 with h6
  injection h6 with e1 e2
  subst e1 e2
  obtain ⟨rfl, o0, o1, B1⟩ := rdn_inv hB h1
  obtain ⟨l', e0, hl, rfl, B2, t2⟩ := decParts_inv _ _ _ _ _ B1 h3
  rw [List.nil_append] at e0
  subst e0
  obtain ⟨rfl, c0, c1, B3⟩ := rdn_inv B2 h5
  have hm : ∀ i, i < 4 → -2147483648 ≤ f.getD i 0 ∧ f.getD i 0 ≤ 2147483647 := fun i hi => by
    have e : f.getD i 0 = f[i]'(by omega) := by simp [List.getD, show i < f.length by omega]
    rw [e]
    exact t2 _ (List.getElem_mem _)
  refine ⟨?_, B3, ⟨by unfold Gm.i64; dsimp only at *; omega, hm 0 (by omega), hm 1 (by omega), hm 2 (by omega), hm 3 (by omega), by unfold Gm.i64; dsimp only at *; omega⟩⟩
  unfold shot
  rw [flight_parts]
  dsimp only
  conv => lhs; rw [four hl]
  simp only [List.append_assoc]
theorem decShots_inv : ∀ (n : Nat) (a l : List Gm.Shot) (bs rest : List Int), IsBytes bs → decShots n a bs = some (l, rest) → ∃ l', l = a ++ l' ∧ l'.length = n ∧ bs = shots l' ++ rest ∧ IsBytes rest ∧ ∀ s ∈ l', Gm.tyShot s
  | 0, a, l, bs, rest, hB, h => by
    unfold decShots at h
    injection h with h
    injection h with e1 e2
    subst e1 e2
    exact ⟨[], by simp, rfl, rfl, hB, fun _ h => by cases h⟩
  | n + 1, a, l, bs, rest, hB, h => by
    unfold decShots at h
    obtain ⟨⟨s, b1⟩, h1, hq⟩ := Option.bind_eq_some_iff.1 h
    clear h
    obtain ⟨rfl, B1, t1⟩ := decShot_inv hB h1
    obtain ⟨l', rfl, h2, h3, B2, t2⟩ := decShots_inv n _ l _ rest B1 hq
    subst h3
    refine ⟨s :: l', by simp, by simp [h2], by simp [shots], B2, fun u hu => ?_⟩
    rcases List.mem_cons.1 hu with rfl | hu
    · exact t1
    · exact t2 u hu
theorem decSeat_inv {bs rest : List Int} {p g : Int} (hB : IsBytes bs) (h : decSeat bs = some ((p, g), rest)) : bs = bytesOf 1 (p + 1) ++ (bytesOf 2 g ++ rest) ∧ IsBytes rest := by
  unfold decSeat at h
  obtain ⟨⟨x, b1⟩, h1, h2⟩ := Option.bind_eq_some_iff.1 h
  clear h
  obtain ⟨⟨y, b2⟩, h3, h4⟩ := Option.bind_eq_some_iff.1 h2
  clear h2
  injection h4 with h4
  injection h4 with e1 e2
  injection e1 with e1 e3
  subst e1 e2 e3
  obtain ⟨rfl, x0, x1, B1⟩ := rdn_inv hB h1
  obtain ⟨rfl, y0, y1, B2⟩ := rdn_inv B1 h3
  dsimp only
  rw [show x - 1 + 1 = x by omega]
  exact ⟨rfl, B2⟩
theorem decSeats_inv : ∀ (n k : Nat) (q r : Ros.R) (bs rest : List Int), IsBytes bs → decSeats k n q bs = some (r, rest) →
    bs = seatsFrom r k n ++ rest ∧ r.version = q.version ∧ ∀ i, i < k ∨ k + n ≤ i → r.peer i = q.peer i ∧ r.gen i = q.gen i
  | 0, k, q, r, bs, rest, hB, h => by
    unfold decSeats at h
    injection h with h
    injection h with e1 e2
    subst e1 e2
    exact ⟨rfl, rfl, fun _ _ => ⟨rfl, rfl⟩⟩
  | n + 1, k, q, r, bs, rest, hB, h => by
    unfold decSeats at h
    obtain ⟨⟨⟨p, g⟩, b1⟩, h1, hq⟩ := Option.bind_eq_some_iff.1 h
    clear h
    obtain ⟨rfl, B1⟩ := decSeat_inv hB h1
    obtain ⟨h2, hv, h4⟩ := decSeats_inv n (k + 1) (setSeat q k p g) r b1 rest B1 hq
    have hk := h4 k (by omega)
    have e1 : (setSeat q k p g).peer k = p := Ros.upd_same _ _ _
    have e2 : (setSeat q k p g).gen k = g := Ros.upd_same _ _ _
    refine ⟨?_, hv, fun i a => ?_⟩
    · rw [h2]
      conv => rhs; unfold seatsFrom
      rw [hk.1, hk.2, e1, e2]
      simp only [List.append_assoc]
    · have e3 : (setSeat q k p g).peer i = q.peer i := Ros.upd_other _ _ (by omega)
      have e4 : (setSeat q k p g).gen i = q.gen i := Ros.upd_other _ _ (by omega)
      rw [(h4 i (by omega)).1, (h4 i (by omega)).2, e3, e4]
      exact ⟨rfl, rfl⟩
theorem dec_inv {bs rest : List Int} {g : Gm.G} {r : Ros.R} (hB : IsBytes bs) (h : dec bs = some ((g, r), rest)) : bs = put g r ++ rest ∧ Gm.ty g ∧ g.shots.length ≤ 255 := by
  unfold dec decRow at h
  obtain ⟨⟨f, b1⟩, h1, ha⟩ := Option.bind_eq_some_iff.1 h
  clear h
  obtain ⟨⟨d, b2⟩, h2, hb⟩ := Option.bind_eq_some_iff.1 ha
  clear ha
  obtain ⟨⟨s, b3⟩, h3, hc⟩ := Option.bind_eq_some_iff.1 hb
  clear hb
  obtain ⟨⟨l, b5⟩, h4, hd⟩ := Option.bind_eq_some_iff.1 hc
  clear hc
  obtain ⟨⟨n, b4⟩, h5, he⟩ := Option.bind_eq_some_iff.1 h4
  clear h4
  obtain ⟨⟨v, b6⟩, h6, hf⟩ := Option.bind_eq_some_iff.1 hd
  clear hd
  obtain ⟨⟨q, b7⟩, h7, hg⟩ := Option.bind_eq_some_iff.1 hf
  clear hf
  injection hg with hg
  injection hg with e1 e2
  injection e1 with e1 e3
  subst e1 e2 e3
  dsimp only at h2 h3 h5 he h6 h7 ⊢
  obtain ⟨rfl, x1, y1, B1⟩ := rdn_inv hB h1
  obtain ⟨rfl, x2, y2, B2⟩ := rdn_inv B1 h2
  obtain ⟨rfl, B3, t3, _⟩ := decShips_inv _ _ _ _ _ _ B2 h3
  obtain ⟨rfl, x5, y5, B5⟩ := rdn_inv B3 h5
  obtain ⟨l', hl0, hl, rfl, B6, t6⟩ := decShots_inv _ _ _ _ _ B5 he
  rw [List.nil_append] at hl0
  subst hl0
  obtain ⟨rfl, x7, y7, B7⟩ := rdn_inv B6 h6
  obtain ⟨rfl, hv, _⟩ := decSeats_inv _ _ _ _ _ _ B7 h7
  have hn : (l.length : Int) = n := by rw [hl, Int.toNat_of_nonneg x5]
  have hv : q.version = v := hv
  refine ⟨?_, ⟨?_, ?_, fun i hi => t3 i (by omega) (by omega), fun i hi => t6 _ (List.getElem_mem hi)⟩, ?_⟩
  · rw [put_from]
    dsimp only
    rw [hn, hv]
    simp only [List.append_assoc]
  · unfold Gm.i64; dsimp only; omega
  · dsimp only; omega
  · (try dsimp only); omega

/-! Get. -/
theorem get_put {g : Gm.G} {r : Ros.R} (h : Ok g r) (hd : 0 ≤ g.dice ∧ g.dice ≤ 18446744073709551615) : ∃ g' r', get (put g r) = some (g', r') ∧ Like g r g' r' := by
  obtain ⟨g', r', h1, h2⟩ := dec_put h hd []
  rw [List.append_nil] at h1
  refine ⟨g', r', ?_, h2⟩
  unfold get
  rw [h1, Option.bind_some, if_pos ⟨rfl, h.like h2⟩]
theorem get_some {bs : List Int} {g : Gm.G} {r : Ros.R} (hB : IsBytes bs) (h : get bs = some (g, r)) : Ok g r ∧ Gm.ty g ∧ put g r = bs := by
  unfold get at h
  obtain ⟨⟨⟨g', r'⟩, e⟩, h1, h2⟩ := Option.bind_eq_some_iff.1 h
  split at h2
  · rename_i hq
    injection h2 with h2
    injection h2 with e1 e2
    subst e1 e2
    obtain ⟨h3, h4, _⟩ := dec_inv hB h1
    dsimp only at hq h3 h4 ⊢
    rw [hq.1, List.append_nil] at h3
    exact ⟨hq.2, h4, h3.symm⟩
  · cases h2
theorem get_app {g : Gm.G} {r : Ros.R} (h : Ok g r) (hd : 0 ≤ g.dice ∧ g.dice ≤ 18446744073709551615) {rest : List Int} (hr : rest ≠ []) : get (put g r ++ rest) = none := by
  obtain ⟨g', r', h1, h2⟩ := dec_put h hd rest
  unfold get
  rw [h1, Option.bind_some, if_neg (fun q => hr q.1)]
theorem ship_bytes (s : Gm.Ship) : IsBytes (ship s) := by
  unfold ship
  split
  · rw [flight_parts]
    refine (bytesOf_bytes _ _).app (IsBytes.app ?_ ((bytesOf_bytes _ _).app (bytesOf_bytes _ _)))
    intro x hx
    unfold parts' at hx
    obtain ⟨y, _, hy⟩ := List.mem_flatMap.1 hx
    exact bytesOf_bytes _ _ x hy
  · exact bytesOf_bytes _ _
theorem shot_bytes (s : Gm.Shot) : IsBytes (shot s) := by
  unfold shot
  rw [flight_parts]
  refine (bytesOf_bytes _ _).app (IsBytes.app ?_ (bytesOf_bytes _ _))
  intro x hx
  unfold parts' at hx
  obtain ⟨y, _, hy⟩ := List.mem_flatMap.1 hx
  exact bytesOf_bytes _ _ x hy
theorem ships_bytes (f : Nat → Gm.Ship) : ∀ k, IsBytes (ships f k)
  | 0 => IsBytes.nil
  | k + 1 => (ships_bytes f k).app (ship_bytes _)
theorem seats_bytes (r : Ros.R) : ∀ k, IsBytes (seats r k)
  | 0 => IsBytes.nil
  | k + 1 => (seats_bytes r k).app ((bytesOf_bytes _ _).app (bytesOf_bytes _ _))
theorem put_bytes (g : Gm.G) (r : Ros.R) : IsBytes (put g r) := by
  unfold put
  refine (bytesOf_bytes _ _).app ((bytesOf_bytes _ _).app ((ships_bytes _ _).app (IsBytes.app ((bytesOf_bytes _ _).app ?_) ((bytesOf_bytes _ _).app (seats_bytes _ _)))))
  intro x hx
  unfold shots at hx
  obtain ⟨s, _, hy⟩ := List.mem_flatMap.1 hx
  exact shot_bytes s x hy
theorem get_cut {g : Gm.G} {r : Ros.R} (h : Ok g r) (hd : 0 ≤ g.dice ∧ g.dice ≤ 18446744073709551615) {k : Nat} (hk : k < (put g r).length) : get ((put g r).take k) = none := by
  cases hg : get ((put g r).take k) with
  | none => rfl
  | some o =>
    obtain ⟨g1, r1⟩ := o
    obtain ⟨h1, h2, h3⟩ := get_some ((put_bytes g r).take k) hg
    have h4 := get_app h1 h2.2.1 (rest := (put g r).drop k) (fun q => by have := congrArg List.length q; simp at this; omega)
    rw [h3, List.take_append_drop] at h4
    obtain ⟨g', r', h5, _⟩ := get_put h hd
    rw [h4] at h5
    cases h5
end Im
end Go.Proofs.Ytbihnmingedgfaa

/-
A ship that is on, read.
-/

namespace Go.Proofs.Ytbihnmingedgfaa
open Go.RowKit Go.Shelf
set_option linter.unusedVariables false
set_option linter.unusedSimpArgs false

set_option maxRecDepth 100000 in
set_option maxHeartbeats 4000000 in
theorem layship_on_r (x y vx vy cool score : Int) (P o : Nat) (t : TypeId) (cs : Array Value) (rest : List Int) (b Bb Bp : Nat) (w : World) (hbB : b ≤ Bb) (hbP : b ≤ P) (hbw : b ≤ w.heap.size) (h : Rd b Bb Bp (Im.ship ⟨true, x, y, vx, vy, cool, score⟩ ++ rest) w) (hP : Box w P t cs)
    (o0 : cs[o]? = some (.bool false)) (oz : ∀ k, k < 4 → cs[o + 1 + k]? = some (.int .i32 0)) (o5 : cs[o + 5]? = some (.int .i64 0)) (o6 : cs[o + 6]? = some (.int .i64 0))
    (wx : -2147483648 ≤ x ∧ x ≤ 2147483647) (wy : -2147483648 ≤ y ∧ y ≤ 2147483647) (wvx : -2147483648 ≤ vx ∧ vx ≤ 2147483647) (wvy : -2147483648 ≤ vy ∧ vy ≤ 2147483647) (wc : 0 ≤ cool ∧ cool ≤ 10) (ws : 0 ≤ score ∧ score ≤ 1073741824) (h1 : t ≠ 54) (h2 : t ≠ 5) (h3 : t ≠ 120) :
    Calls Try.prog 126 #[.func (.func 130) #[] #[.pointer (some ⟨Bp, 0, none⟩)], .pointer (some ⟨P, o, none⟩)] w fun e w' => e = .returned (.tuple #[]) ∧ Rd b Bb Bp rest w' ∧ Rk b Bb P w w' ∧ ∃ cs', Box w' P t cs' ∧ Im.Patch cs o (Gm.Ship.cells ⟨true, x, y, vx, vy, cool, score⟩) cs' := by
  have eh : Im.ship ⟨true, x, y, vx, vy, cool, score⟩ ++ rest = Im.bytesOf 1 1 ++ (Im.flight (fun k => match k with | 0 => x | 1 => y | 2 => vx | _ => vy) 4 ++ (Im.bytesOf 1 cool ++ (Im.bytesOf 4 score ++ rest))) := by
    unfold Im.ship
    rw [if_pos rfl]
    simp only [List.append_assoc]
    rfl
  rw [eh] at h
  clear eh
  have k0 := hP.cell o
  rw [o0] at k0
  have ltP := hP.lt
  have HPA := Lib.hid (hP.alloc (.cells #[.int .i64 0] 3))
  have HKA := Lib.hid (Rk.alloc (w := w) (Bb := Bb) (P := P) hbw (.cells #[.int .i64 0] 3))
  have c1 := Lib.hid (layint_r 1 1 rfl 1 1 0 (by omega) (by omega) w.heap.size 0 3 #[.int .i64 0] _ b Bb Bp _ (by decide) hbB hbw (by simp <;> omega) (h.call (one_below w (.cells #[.int .i64 0] 3)) hbw) (Box.made w 3 #[.int .i64 0]) rfl (by decide) (by decide) (by decide))
  have HO := Lib.hid o0
  have HB := Lib.hid hbP
  have HW := Lib.hid hbw
  clear h hP hbw
  go_enter Try.func126, Try.ntmps126
  go_upto_region 6 with (first | (go_at_call 76; ((with_reducible refine (need_yes _ _).mono ?_); rintro e wn ⟨rfl, rfl⟩)) | (go_at_call 124; ((with_reducible refine (c1.out).mono ?_); rintro e w1 ⟨rfl, hI1, hK1, hL1⟩; have l1 := hL1.cell 0; have P1 := Lib.hid (hK1.kb _ _ _ HPA.out (by omega) h1 h2); have p1 := P1.out.cell o; rw [HO.out] at p1; have f1 := P1.out.free o; have I1 := Lib.hid hI1; have K1 := Lib.hid (HKA.out.local hK1 (Nat.le_refl _)); clear hI1 hK1 hL1 k0 c1)))
  obtain ⟨U, hU⟩ : ∃ U, U = w1.setCell ⟨P, o, none⟩ (.bool true) := ⟨_, rfl⟩
  have IU := Lib.hid (show Rd b Bb Bp _ U from hU ▸ I1.out.off (p := ⟨P, o, none⟩) P1.out h3 h1 HB.out (.bool true))
  have KU := Lib.hid (show Rk b Bb P w U from hU ▸ K1.out.put HB.out o (.bool true))
  have PU := Lib.hid (show Box U P t (cs.setIfInBounds o (.bool true)) from hU ▸ P1.out.put o (.bool true))
  rw [← hU]
  have T0 := Im.Patch.one (.bool true) o0
  have u0 := (PU.out.cell o).trans (T0.at 0 (by decide))
  simp only [List.getElem?_cons_zero] at u0
  have hc1 : ∀ k, k < 4 → (cs.setIfInBounds o (.bool true))[o + 1 + k]? = some (.int .i32 0) := fun k hk => (T0.cell (.inr (by show o + 1 ≤ o + 1 + k; omega))).trans (oz k hk)
  have cf := fun X hX1 hX2 hX3 Bq hne hq => Lib.hid (layflight_r (fun k => match k with | 0 => x | 1 => y | 2 => vx | _ => vy) P (o + 1) Bq t (cs.setIfInBounds o (.bool true)) (Im.bytesOf 1 cool ++ (Im.bytesOf 4 score ++ rest)) b Bb Bp X (fun k hk => by
    match k, hk with
    | 0, _ => exact wx
    | 1, _ => exact wy
    | 2, _ => exact wvx
    | 3, _ => exact wvy) hbB hbP hX1 hX2 hX3 hc1 h1 h2 h3 hne hq 4)
  have HT0 := Lib.hid T0
  clear hU I1 K1 P1 p1 f1 l1 HPA HKA hc1 T0 oz o0
  go_upto_region 7 with fail
  refine Rp.wp_region_lex (by kernel_rfl) [] (by kernel_rfl) (· = U.drew) (fun _ => True) (fun _ => True) rfl (fun W hW => ⟨trivial, trivial⟩) ?_
  repeat (first
    | (apply Rp.lex_free rfl rfl; focus (intro _; go_simp; first | done | rfl))
    | (apply Rp.lex_look rfl rfl rfl rfl; focus (intro W hW; clear hW; go_simp; first | done | rfl)))
  refine Rp.lex_make rfl (W' := U.drew.alloc (.cells #[.pointer (some ⟨P, o + 1, none⟩), .pointer (some ⟨P, o + 2, none⟩), .pointer (some ⟨P, o + 3, none⟩), .pointer (some ⟨P, o + 4, none⟩)] 180)) (v := .slice (some ⟨U.drew.heap.size, 0, none⟩) 4 4) ?_ ⟨trivial, trivial⟩ ?_
  focus (go_simp; first | done | rfl)
  refine Rp.lex_call (C' := fun Z => Rd b Bb Bp (Im.bytesOf 1 cool ++ (Im.bytesOf 4 score ++ rest)) Z ∧ Rk b Bb P w Z ∧ ∃ cs', Box Z P t cs' ∧ Im.Patch cs o ([.bool true] ++ Im.parts (fun k => match k with | 0 => x | 1 => y | 2 => vx | _ => vy) 4) cs') (v := .tuple #[]) (f := 153) (args := #[.func (.func 130) #[] #[.pointer (some ⟨Bp, 0, none⟩)], .slice (some ⟨U.drew.heap.size, 0, none⟩) 4 4]) rfl ?_ ?_ ?_ ?_
  · intro Z hZ; clear hZ; go_simp; first | done | rfl | exact ⟨rfl, rfl⟩
  · intro Z hZ
    subst hZ
    have hs0 : b ≤ U.heap.size := Nat.le_trans HW.out KU.out.below.size
    have KA : Rk b Bb P w (U.drew.alloc (.cells #[.pointer (some ⟨P, o + 1, none⟩), .pointer (some ⟨P, o + 2, none⟩), .pointer (some ⟨P, o + 3, none⟩), .pointer (some ⟨P, o + 4, none⟩)] 180)) := KU.out.trans ⟨((one_below' U).mono hs0).trans ((one_below U.drew _).mono hs0), ((Kb.refl U).call (one_below' U)).call (one_below U.drew _)⟩
    have hW := (IU.out.call (one_below' U) hs0).call (one_below U.drew (.cells #[.pointer (some ⟨P, o + 1, none⟩), .pointer (some ⟨P, o + 2, none⟩), .pointer (some ⟨P, o + 3, none⟩), .pointer (some ⟨P, o + 4, none⟩)] 180)) hs0
    refine (cf _ (Nat.le_trans HW.out KA.below.size) hW (PU.out.drew.alloc _) U.drew.heap.size (by have := PU.out.drew.lt; omega) (Box.made _ _ _)).out.mono ?_
    rintro e Z2 ⟨rfl, hI2, hK2, cs', hB2, hp2⟩
    exact ⟨rfl, hI2, KA.trans hK2, cs', hB2, HT0.out.trans hp2 rfl⟩
  · exact fun Z hZ => ⟨trivial, trivial⟩
  refine Rp.lex_end fun W3 hW3 => ?_
  obtain ⟨hI3, hK3, cs3, hP3, hp3⟩ := hW3
  have len3 : ([Value.bool true] ++ Im.parts (fun k => match k with | 0 => x | 1 => y | 2 => vx | _ => vy) 4).length = 5 := by rw [List.length_append, Im.parts_len]; rfl
  have z5 : cs3[o + 5]? = some (.int .i64 0) := (hp3.cell (.inr (by rw [len3]; exact Nat.le_refl _))).trans o5
  have T5 := hp3.trans (Im.Patch.one (.int .i64 cool) z5) (by rw [len3])
  have z6 : (cs3.setIfInBounds (o + 5) (.int .i64 cool))[o + 6]? = some (.int .i64 0) := (T5.cell (.inr (by rw [List.length_append, len3]; exact Nat.le_refl _))).trans o6
  have T6 := T5.trans (Im.Patch.one (.int .i64 score) z6) (by rw [List.length_append, len3]; rfl)
  have c5 := Lib.hid (layint_r 1 1 rfl cool cool 0 (by omega) (by omega) P (o + 5) t cs3 (Im.bytesOf 4 score ++ rest) b Bb Bp W3 (by decide) hbB hbP (Nat.le_trans HW.out hK3.below.size) hI3 hP3 z5 h1 h2 h3)
  have c6 := fun X hX1 hX2 hX3 => Lib.hid (layint_r 4 4 rfl score score 0 (by omega) (by omega) P (o + 6) t (cs3.setIfInBounds (o + 5) (.int .i64 cool)) rest b Bb Bp X (by decide) hbB hbP hX1 hX2 hX3 z6 h1 h2 h3)
  have p3 := hP3.cell
  have K3 := Lib.hid hK3
  have HT6 := Lib.hid T6
  clear hI3 hK3 hP3 cf IU KU PU u0 o5 o6 hp3 len3 z5 T5 z6 T6 HT0
  go_wp2_with (first | (go_at_call 124; ((with_reducible refine (c5.out).mono ?_); rintro e w4 ⟨rfl, hI, hK, hB⟩; have P4 := Lib.hid hB; have I4 := Lib.hid hI; have K4 := Lib.hid (K3.out.trans hK); clear hI hK hB c5)) | (go_at_call 124; ((with_reducible refine ((c6 _ (Nat.le_trans HW.out K4.out.below.size) I4.out P4.out).out).mono ?_); rintro e w5 ⟨rfl, hI, hK, hB⟩; have P5 := Lib.hid hB; have I5 := Lib.hid hI; have K5 := Lib.hid (K4.out.trans hK); clear hI hK hB)))
  go_end0
  exact ⟨rfl, I5.out, K5.out, _, P5.out, HT6.out⟩
end Go.Proofs.Ytbihnmingedgfaa

/-
As Rp, where a call may throw, too: X is what it leaves then. A region that draws its order, whose operations are addresses and numbers, looks, calls that leave a class of worlds, and acts (stores; what makes memory) that stand in one order among themselves and towards the calls, the stores also towards the looks: one walk in the order of the text serves every order.
-/




namespace Rx
open Go
/-- What a call that throws may leave. -/
abbrev Thr := List PanicEntry → World → Prop

def isHard (o : Oper) : Bool := match o.op with | .store .. => true | _ => false
def isMake (o : Oper) : Bool := match o.op with | .buildSlice .. | .alloc .. => true | .call c => (match c.callee with | .builtin .append | .value _ => true | _ => false) | _ => false
def isStore (o : Oper) : Bool := isHard o || isMake o
/-- The world is looked at, and left as it is. -/
def isLook (o : Oper) : Bool := match o.op with | .load .. | .nilCheck .. => true | _ => false
/-- Nothing of the world is asked. -/
def isFree (o : Oper) : Bool := match o.op with | .fieldAddr .. | .indexAddr .. | .move .. | .assign .. | .pick .. | .extract .. | .binOp .. | .unOp .. | .build .. | .convert .. => true | _ => false

theorem store_free {o : Oper} (h : isStore o = true) : isFree o = false := by
  unfold isStore isHard isMake at h
  unfold isFree
  generalize o.op = x at h ⊢
  cases x <;> first | rfl | (exact absurd h (by decide)) | (simp at h)
theorem store_look {o : Oper} (h : isStore o = true) : isLook o = false := by
  unfold isStore isHard isMake at h
  unfold isLook
  generalize o.op = x at h ⊢
  cases x <;> first | rfl | (exact absurd h (by decide)) | (simp at h)

/-- What an operation leaves: the value v, a world of C. -/
def Gives (P : Program) (X : Thr) (o : Oper) (a : Act) (w : World) (v : Value) (C : World → Prop) : Prop :=
  match (execOp a.eval o).run P w with
  | .ok (.value u) w1 => u = v ∧ C w1
  | .ok .skip w1 => undef = v ∧ C w1
  | .ok (.enter f args) w1 => Calls P f args w1 fun e w2 => (e = .returned v ∧ C w2) ∨ ∃ ch, e = .panicked ch ∧ X ch w2
  | _ => False

theorem Gives.wp {P : Program} {X : Thr} {o : Oper} {a : Act} {w : World} {v : Value} {C : World → Prop} {K : Act → World → Prop} {Q : Exit → Act → World → Prop} (h : Gives P X o a w v C) (hX : ∀ ch w', X ch w' → Q (.panic ch) a w') (hK : ∀ w', C w' → K (a.put o.dst v) w') : o.wp P a w K Q := by
  unfold Gives at h
  unfold Oper.wp
  generalize (execOp a.eval o).run P w = r at *
  cases r with
  | ok n w1 =>
    cases n <;> simp only [Oper.upon] at h ⊢
    case value u => obtain ⟨rfl, h⟩ := h; exact hK _ h
    case skip => obtain ⟨rfl, h⟩ := h; exact hK _ h
    case enter f args =>
      refine h.mono fun e w2 hq => ?_
      rcases hq with ⟨he, hw⟩ | ⟨ch, he, hw⟩
      · subst he; exact hK _ hw
      · subst he; exact hX _ _ hw
  | halt x w1 => cases h
theorem Gives.congr {P : Program} {X : Thr} {o : Oper} {a a' : Act} {w : World} {v : Value} {C : World → Prop} (h : Gives P X o a w v C) (he : execOp a'.eval o = execOp a.eval o) : Gives P X o a' w v C := by
  unfold Gives at *; rw [he]; exact h

/-- The walk in the order of the text: C is what is known of the world, D what is known of it till the next store, E what is known all the time; n is how many have been; the looks of st ask E alone. -/
def wpLex (P : Program) (X : Thr) (st : List Nat) (E : World → Prop) (Q : Act → (World → Prop) → Prop) : List Oper → Nat → Act → (World → Prop) → (World → Prop) → Prop
  | [], _, a, C, _ => Q a C
  | o :: rest, n, a, C, D =>
    if isStore o then ∃ v C' D', (∀ w, C w → Gives P X o a w v C') ∧ (isHard o = false → D' = D) ∧ (∀ w, C' w → D' w ∧ E w) ∧ wpLex P X st E Q rest (n + 1) (a.put o.dst v) C' D'
    else if isFree o then ∃ v, (∀ w, Gives P X o a w v (fun w' => w' = w)) ∧ wpLex P X st E Q rest (n + 1) (a.put o.dst v) C D
    else if isLook o then ∃ v, (∀ w, (if st.contains n then E w else D w) → Gives P X o a w v (fun w' => w' = w)) ∧ wpLex P X st E Q rest (n + 1) (a.put o.dst v) C D
    else ∃ v, (∀ w, C w → Gives P X o a w v C) ∧ wpLex P X st E Q rest (n + 1) (a.put o.dst v) C D

/-- A run in the order of the text, written out. -/
structure Run (P : Program) (X : Thr) (st : Nat → Bool) (E : World → Prop) (l : List Oper) (A : Nat → Act) (C D : Nat → World → Prop) (v : Nat → Value) : Prop where
  act : ∀ i o, l[i]? = some o → A (i + 1) = (A i).put o.dst (v i)
  store : ∀ i o, l[i]? = some o → isStore o = true → ∀ w, C i w → Gives P X o (A i) w (v i) (C (i + 1))
  free : ∀ i o, l[i]? = some o → isStore o = false → isFree o = true → C (i + 1) = C i ∧ ∀ w, Gives P X o (A i) w (v i) (fun w' => w' = w)
  look : ∀ i o, l[i]? = some o → isStore o = false → isFree o = false → isLook o = true → C (i + 1) = C i ∧ ∀ w, (if st i then E w else D i w) → Gives P X o (A i) w (v i) (fun w' => w' = w)
  read : ∀ i o, l[i]? = some o → isStore o = false → isFree o = false → isLook o = false → C (i + 1) = C i ∧ ∀ w, C i w → Gives P X o (A i) w (v i) (C i)
  soft : ∀ i o, l[i]? = some o → isHard o = false → D (i + 1) = D i
  held : ∀ i, i ≤ l.length → ∀ w, C i w → D i w ∧ E w

def consF {α : Type} (x : α) (f : Nat → α) : Nat → α
  | 0 => x
  | i + 1 => f i
theorem Run.cons {P : Program} {X : Thr} {st : Nat → Bool} {E : World → Prop} {l : List Oper} {o : Oper} {a : Act} {C D C1 D1 : World → Prop} {u : Value} {A : Nat → Act} {Cs Ds : Nat → World → Prop} {v : Nat → Value} (hr : Run P X (fun i => st (i + 1)) E l A Cs Ds v) (hA : A 0 = a.put o.dst u) (hC : Cs 0 = C1) (hD : Ds 0 = D1) (hCD : ∀ w, C w → D w ∧ E w)
    (h1 : isStore o = true → ∀ w, C w → Gives P X o a w u C1) (h2 : isStore o = false → isFree o = true → C1 = C ∧ ∀ w, Gives P X o a w u (fun w' => w' = w)) (h3 : isStore o = false → isFree o = false → isLook o = true → C1 = C ∧ ∀ w, (if st 0 then E w else D w) → Gives P X o a w u (fun w' => w' = w))
    (h4 : isStore o = false → isFree o = false → isLook o = false → C1 = C ∧ ∀ w, C w → Gives P X o a w u C) (h5 : isHard o = false → D1 = D) : Run P X st E (o :: l) (consF a A) (consF C Cs) (consF D Ds) (consF u v) := by
  refine ⟨?_, ?_, ?_, ?_, ?_, ?_, ?_⟩
  · intro i o' ho'
    cases i with
    | zero => simp at ho'; subst ho'; exact hA
    | succ i => exact hr.act i o' (by simpa using ho')
  · intro i o' ho'
    cases i with
    | zero => simp at ho'; subst ho'; intro hs w hw; show Gives P X o a w u (Cs 0); rw [hC]; exact h1 hs w hw
    | succ i => exact hr.store i o' (by simpa using ho')
  · intro i o' ho'
    cases i with
    | zero => simp at ho'; subst ho'; intro hs hf; exact ⟨hC.trans (h2 hs hf).1, (h2 hs hf).2⟩
    | succ i => exact hr.free i o' (by simpa using ho')
  · intro i o' ho'
    cases i with
    | zero => simp at ho'; subst ho'; intro hs hf hl; exact ⟨hC.trans (h3 hs hf hl).1, (h3 hs hf hl).2⟩
    | succ i => exact hr.look i o' (by simpa using ho')
  · intro i o' ho'
    cases i with
    | zero => simp at ho'; subst ho'; intro hs hf hl; exact ⟨hC.trans (h4 hs hf hl).1, (h4 hs hf hl).2⟩
    | succ i => exact hr.read i o' (by simpa using ho')
  · intro i o' ho'
    cases i with
    | zero => simp at ho'; subst ho'; intro hh; exact hD.trans (h5 hh)
    | succ i => exact hr.soft i o' (by simpa using ho')
  · intro i hi
    cases i with
    | zero => exact hCD
    | succ i => exact hr.held i (by simpa using hi)
theorem run_of_lex {P : Program} {X : Thr} {st : List Nat} {E : World → Prop} {Q : Act → (World → Prop) → Prop} : ∀ (l : List Oper) (n : Nat) (a : Act) (C D : World → Prop), (∀ w, C w → D w ∧ E w) → wpLex P X st E Q l n a C D →
    ∃ A Cs Ds v, Run P X (fun i => st.contains (n + i)) E l A Cs Ds v ∧ A 0 = a ∧ Cs 0 = C ∧ Ds 0 = D ∧ Q (A l.length) (Cs l.length)
  | [], n, a, C, D, hCD, h => ⟨fun _ => a, fun _ => C, fun _ => D, fun _ => undef, ⟨fun i o h => by simp at h, fun i o h => by simp at h, fun i o h => by simp at h, fun i o h => by simp at h, fun i o h => by simp at h, fun i o h => by simp at h, fun i _ w hw => hCD w hw⟩, rfl, rfl, rfl, h⟩
  | o :: l, n, a, C, D, hCD, h => by
    unfold wpLex at h
    have shift : (fun i => st.contains (n + 1 + i)) = fun i => (fun j => st.contains (n + j)) (i + 1) := funext fun i => by
      show st.contains (n + 1 + i) = st.contains (n + (i + 1)); rw [show n + 1 + i = n + (i + 1) by omega]
    by_cases hs : isStore o = true
    · rw [if_pos hs] at h
      obtain ⟨u, C', D', h1, hd, hcd, h2⟩ := h
      obtain ⟨A, Cs, Ds, v, hr, hA, hC, hD, hQ⟩ := run_of_lex l (n + 1) _ C' D' hcd h2
      rw [shift] at hr
      exact ⟨_, _, _, _, Run.cons (st := fun j => st.contains (n + j)) hr hA hC hD hCD (fun _ => h1) (fun e => by rw [hs] at e; cases e) (fun e => by rw [hs] at e; cases e) (fun e => by rw [hs] at e; cases e) hd, rfl, rfl, rfl, hQ⟩
    · have hs0 : isStore o = false := by simpa using hs
      have hh0 : isHard o = false := by simp [isStore] at hs0; exact hs0.1
      rw [if_neg hs] at h
      by_cases hf : isFree o = true
      · rw [if_pos hf] at h
        obtain ⟨u, h1, h2⟩ := h
        obtain ⟨A, Cs, Ds, v, hr, hA, hC, hD, hQ⟩ := run_of_lex l (n + 1) _ C D hCD h2
        rw [shift] at hr
        exact ⟨_, _, _, _, Run.cons (st := fun j => st.contains (n + j)) hr hA hC hD hCD (fun e => absurd e hs) (fun _ _ => ⟨rfl, h1⟩) (fun _ e => by rw [hf] at e; cases e) (fun _ e => by rw [hf] at e; cases e) (fun _ => rfl), rfl, rfl, rfl, hQ⟩
      · rw [if_neg hf] at h
        by_cases hl : isLook o = true
        · rw [if_pos hl] at h
          obtain ⟨u, h1, h2⟩ := h
          obtain ⟨A, Cs, Ds, v, hr, hA, hC, hD, hQ⟩ := run_of_lex l (n + 1) _ C D hCD h2
          rw [shift] at hr
          exact ⟨_, _, _, _, Run.cons (st := fun j => st.contains (n + j)) hr hA hC hD hCD (fun e => absurd e hs) (fun _ e => absurd e hf) (fun _ _ _ => ⟨rfl, h1⟩) (fun _ _ e => by rw [hl] at e; cases e) (fun _ => rfl), rfl, rfl, rfl, hQ⟩
        · rw [if_neg hl] at h
          obtain ⟨u, h1, h2⟩ := h
          obtain ⟨A, Cs, Ds, v, hr, hA, hC, hD, hQ⟩ := run_of_lex l (n + 1) _ C D hCD h2
          rw [shift] at hr
          exact ⟨_, _, _, _, Run.cons (st := fun j => st.contains (n + j)) hr hA hC hD hCD (fun e => absurd e hs) (fun _ e => absurd e hf) (fun _ _ e => absurd e hl) (fun _ _ _ => ⟨rfl, h1⟩) (fun _ => rfl), rfl, rfl, rfl, hQ⟩

/-! Frames: which operations have been. -/
section
variable {l : List Oper} {v : Nat → Value} {a0 : Act}
structure Shape (l : List Oper) (v : Nat → Value) (a0 : Act) (S : Nat → Bool) (a : Act) : Prop where
  size : a.tmps.size = a0.tmps.size
  defers : a.defers = a0.defers
  done : ∀ j o t, l[j]? = some o → o.dst = some t → S j = true → a.tmps[t]? = if t < a0.tmps.size then some (v j) else none
  rest : ∀ t, (∀ j o, l[j]? = some o → o.dst = some t → S j = false) → a.tmps[t]? = a0.tmps[t]?

def Distinct (l : List Oper) : Prop := ∀ (i j : Nat) (oi oj : Oper) (t : Tmp), l[i]? = some oi → l[j]? = some oj → oi.dst = some t → oj.dst = some t → i = j

theorem Shape.start : Shape l v a0 (fun _ => false) a0 := ⟨rfl, rfl, fun _ _ _ _ _ h => (by cases h), fun _ _ => rfl⟩
theorem Shape.put {S : Nat → Bool} {a : Act} (hd : Distinct l) (h : Shape l v a0 S a) {i : Nat} {o : Oper} (ho : l[i]? = some o) : Shape l v a0 (fun j => S j || j == i) (a.put o.dst (v i)) := by
  cases hdst : o.dst with
  | none =>
    refine ⟨h.size, h.defers, fun j oj t hj ht hS => ?_, fun t ht => ?_⟩
    · simp only [Bool.or_eq_true, beq_iff_eq] at hS
      rcases hS with hS | rfl
      · exact h.done j oj t hj ht hS
      · rw [ho] at hj; injection hj with hj; subst hj; rw [hdst] at ht; cases ht
    · exact h.rest t fun j oj hj ht' => by have := ht j oj hj ht'; simp at this; exact this.1
  | some d =>
    refine ⟨by simp [Act.put, h.size], h.defers, fun j oj t hj ht hS => ?_, fun t ht => ?_⟩
    · simp only [Act.put, Array.getElem?_setIfInBounds]
      by_cases htd : d = t
      · subst htd
        have : j = i := hd j i oj o d hj ho ht hdst
        subst this
        rw [if_pos rfl, h.size]
      · rw [if_neg htd]
        simp only [Bool.or_eq_true, beq_iff_eq] at hS
        rcases hS with hS | rfl
        · exact h.done j oj t hj ht hS
        · rw [ho] at hj; injection hj with hj; subst hj; rw [hdst] at ht; injection ht with ht; exact absurd ht htd
    · have hne : d ≠ t := fun e => by subst e; have := ht i o ho hdst; simp at this
      simp only [Act.put, Array.getElem?_setIfInBounds, if_neg hne]
      exact h.rest t fun j oj hj ht' => by have := ht j oj hj ht'; simp at this; exact this.1
theorem Shape.same {S S' : Nat → Bool} {a a' : Act} (h : Shape l v a0 S a) (h' : Shape l v a0 S' a') {t : Nat} (hS : ∀ j o, l[j]? = some o → o.dst = some t → S j = S' j) : a.tmps[t]? = a'.tmps[t]? := by
  by_cases hx : ∃ j o, l[j]? = some o ∧ o.dst = some t ∧ S j = true
  · obtain ⟨j, o, hj, ht, hs⟩ := hx
    rw [h.done j o t hj ht hs, h'.done j o t hj ht (by rw [← hS j o hj ht]; exact hs)]
  · have hn : ∀ j o, l[j]? = some o → o.dst = some t → S j = false := fun j o hj ht => by
      cases hs : S j
      · rfl
      · exact absurd ⟨j, o, hj, ht, hs⟩ hx
    rw [h.rest t hn, h'.rest t fun j o hj ht => by rw [← hS j o hj ht]; exact hn j o hj ht]
theorem Shape.ext {S S' : Nat → Bool} {a a' : Act} (h : Shape l v a0 S a) (h' : Shape l v a0 S' a') (hS : ∀ j o, l[j]? = some o → S j = S' j) : a = a' := by
  have ht : a.tmps = a'.tmps := Array.ext_getElem? fun t => h.same h' fun j o hj _ => hS j o hj
  have hd : a.defers = a'.defers := h.defers.trans h'.defers.symm
  cases a; cases a'; simp_all
theorem Shape.congr {S S' : Nat → Bool} {a : Act} (h : Shape l v a0 S a) (hS : ∀ j o, l[j]? = some o → S j = S' j) : Shape l v a0 S' a :=
  ⟨h.size, h.defers, fun j o t hj ht hs => h.done j o t hj ht (by rw [hS j o hj]; exact hs), fun t ht => h.rest t fun j o hj hd => by rw [hS j o hj]; exact ht j o hj hd⟩
theorem Run.shape {P : Program} {X : Thr} {st : Nat → Bool} {E : World → Prop} {A : Nat → Act} {C D : Nat → World → Prop} (hr : Run P X st E l A C D v) (hd : Distinct l) : ∀ k, k ≤ l.length → Shape l v (A 0) (fun j => decide (j < k)) (A k)
  | 0, _ => Shape.start.congr fun j o _ => by simp
  | k + 1, hk => by
    have ho : l[k]? = some (l[k]'(by omega)) := List.getElem?_eq_getElem (by omega)
    rw [hr.act k _ ho]
    refine ((Run.shape hr hd k (by omega)).put hd ho).congr fun j o _ => ?_
    rw [Bool.eq_iff_iff]; simp; omega
end

/-! The orders. -/
/-- Does i wait for j? As the table says. -/
def tb (b : Array Nat) (i j : Nat) : Bool := (b.getD i 0).testBit j
def pairB (st : List Nat) (l : List Oper) (b : Array Nat) (i j : Nat) : Bool :=
  match l[i]?, l[j]? with
  | some oi, some oj =>
    (!(tb b i j) || oi.after.any fun e => Region.binds .any e && (e.on == j || tb b e.on j)) &&
    (i == j || ((match oi.dst, oj.dst with | some d, some d' => d != d' | _, _ => true) &&
      (match oj.dst with | some d => !(oi.looksAt l.toArray).contains d || (if j < i then tb b i j else tb b j i) | none => true) &&
      (!isStore oj || isFree oi || (isLook oi && (!isHard oj || st.contains i)) || (if j < i then tb b i j else tb b j i))))
  | _, _ => true
def oneB (l : List Oper) (i : Nat) : Bool :=
  match l[i]? with
  | some o => o.guard.isNone && !(isStore o && isFree o) && o.after.all fun e => !Region.binds .any e || decide (e.on < i)
  | none => true
def okB (st : List Nat) (l : List Oper) : Bool :=
  Region.noSelect l.toArray && ((List.range l.length).all fun i => oneB l i && (List.range l.length).all fun j => pairB st l (Region.before l.toArray) i j)

structure Ok (st : List Nat) (l : List Oper) (cl : Nat → Nat → Bool) : Prop where
  sel : Region.noSelect l.toArray = true
  guard : ∀ (i : Nat) (o : Oper), l[i]? = some o → o.guard = none
  down : ∀ (i : Nat) (o : Oper), l[i]? = some o → ∀ e ∈ o.after, Region.binds .any e = true → e.on < i
  cert : ∀ (i j : Nat) (o oj : Oper), l[i]? = some o → l[j]? = some oj → cl i j = true → ∃ e ∈ o.after, Region.binds .any e = true ∧ (e.on = j ∨ cl e.on j = true)
  dist : Distinct l
  looks : ∀ (i j : Nat) (oi oj : Oper) (t : Tmp), l[i]? = some oi → l[j]? = some oj → i ≠ j → oj.dst = some t → t ∈ oi.looksAt l.toArray → (if j < i then cl i j else cl j i) = true
  store : ∀ (i j : Nat) (oi oj : Oper), l[i]? = some oi → l[j]? = some oj → i ≠ j → isStore oj = true → isFree oi = false → (isLook oi && (!isHard oj || st.contains i)) = false → (if j < i then cl i j else cl j i) = true
theorem Ok.of (st : List Nat) (l : List Oper) (h : okB st l = true) : Ok st l (tb (Region.before l.toArray)) := by
  simp only [okB, Bool.and_eq_true] at h
  obtain ⟨h0, h⟩ := h
  have h1 : ∀ i o, l[i]? = some o → oneB l i = true ∧ ∀ j oj, l[j]? = some oj → pairB st l (Region.before l.toArray) i j = true := fun i o ho => by
    have hi : i < l.length := (List.getElem?_eq_some_iff.1 ho).1
    have := List.all_eq_true.1 h i (List.mem_range.2 hi)
    simp only [Bool.and_eq_true] at this
    exact ⟨this.1, fun j oj hj => List.all_eq_true.1 this.2 j (List.mem_range.2 (List.getElem?_eq_some_iff.1 hj).1)⟩
  have one : ∀ i o, l[i]? = some o → (o.guard.isNone = true ∧ (!(isStore o && isFree o)) = true) ∧ (o.after.all fun e => !Region.binds .any e || decide (e.on < i)) = true := fun i o ho => by
    have := (h1 i o ho).1
    simp only [oneB, ho, Bool.and_eq_true] at this
    exact this
  have two : ∀ i j oi oj, l[i]? = some oi → l[j]? = some oj →
      (!(tb (Region.before l.toArray) i j) || oi.after.any fun e => Region.binds .any e && (e.on == j || tb (Region.before l.toArray) e.on j)) = true ∧
      (i == j || ((match oi.dst, oj.dst with | some d, some d' => d != d' | _, _ => true) &&
      (match oj.dst with | some d => !(oi.looksAt l.toArray).contains d || (if j < i then tb (Region.before l.toArray) i j else tb (Region.before l.toArray) j i) | none => true) &&
      (!isStore oj || isFree oi || (isLook oi && (!isHard oj || st.contains i)) || (if j < i then tb (Region.before l.toArray) i j else tb (Region.before l.toArray) j i)))) = true := fun i j oi oj hi hj => by
    have := (h1 i oi hi).2 j oj hj
    simp only [pairB, hi, hj, Bool.and_eq_true] at this
    exact this
  refine ⟨h0, fun i o ho => by simpa using (one i o ho).1.1, fun i o ho e he hb => ?_, fun i j o oj hi hj hc => ?_, fun i j oi oj t hi hj hdi hdj => ?_, fun i j oi oj t hi hj hne hdj ht => ?_, fun i j oi oj hi hj hne hs hf hlk => ?_⟩
  · have := (Array.all_eq_true_iff_forall_mem.1 (one i o ho).2) e he
    simpa [hb] using this
  · have := (two i j o oj hi hj).1
    rw [hc] at this
    simp at this
    obtain ⟨k, hk, h1, h2⟩ := this
    exact ⟨o.after[k], Array.getElem_mem hk, h1, h2⟩
  · by_cases hij : i = j
    · exact hij
    · have := (two i j oi oj hi hj).2
      simp [hij, hdi, hdj] at this
  · have := (two i j oi oj hi hj).2
    simp only [Bool.or_eq_true, beq_iff_eq, Bool.and_eq_true, hne, false_or, hdj] at this
    have h2 := this.1.2
    rcases h2 with h2 | h2
    · simp at h2; exact absurd ht h2
    · exact h2
  · have := (two i j oi oj hi hj).2
    simp only [Bool.or_eq_true, beq_iff_eq, Bool.and_eq_true, hne, false_or] at this
    rcases this.2 with ((h2 | h2) | h2) | h2
    · simp [hs] at h2
    · rw [hf] at h2; cases h2
    · simp only [h2.1, Bool.true_and] at hlk; have h3' := h2.2; simp only [Bool.or_eq_false_iff] at hlk; rcases h3' with h3 | h3
      · rw [hlk.1] at h3; cases h3
      · rw [hlk.2] at h3; cases h3
    · exact h2

/-- How many have not been. -/
def unl (f : Nat → Bool) : Nat → Nat
  | 0 => 0
  | k + 1 => unl f k + (if f k then 0 else 1)
theorem unl_le (f : Nat → Bool) : ∀ n, unl f n ≤ n
  | 0 => Nat.le_refl _
  | n + 1 => by have := unl_le f n; unfold unl; split <;> omega
theorem unl_zero {f : Nat → Bool} : ∀ {n}, unl f n = 0 → ∀ i, i < n → f i = true
  | 0, _, i, h => absurd h (by omega)
  | n + 1, h, i, hi => by
    unfold unl at h
    by_cases hfn : f n = true
    · rw [if_pos hfn] at h
      by_cases hin : i = n
      · rw [hin]; exact hfn
      · exact unl_zero (n := n) (by omega) i (by omega)
    · rw [if_neg hfn] at h; omega
theorem unl_congr {f g : Nat → Bool} : ∀ {n}, (∀ i, i < n → f i = g i) → unl f n = unl g n
  | 0, _ => rfl
  | n + 1, h => by unfold unl; rw [unl_congr (n := n) fun i hi => h i (by omega), h n (by omega)]
theorem unl_set {f g : Nat → Bool} {i : Nat} (h0 : f i = false) (h1 : g i = true) (ho : ∀ j, j ≠ i → g j = f j) : ∀ {n}, i < n → unl g n + 1 = unl f n
  | 0, h => absurd h (by omega)
  | n + 1, h => by
    unfold unl
    by_cases hin : i = n
    · subst hin
      rw [unl_congr (n := i) fun j hj => ho j (by omega), h0, h1]; simp
    · have := unl_set h0 h1 ho (n := n) (by omega)
      rw [ho n (by omega)]; omega

structure Inv (l : List Oper) (v : Nat → Value) (a0 : Act) (C : Nat → World → Prop) (listed : Array Bool) (a : Act) (w : World) : Prop where
  size : listed.size = l.length
  closed : ∀ (i : Nat) (o : Oper), l[i]? = some o → listed.getD i false = true → ∀ e ∈ o.after, Region.binds .any e = true → listed.getD e.on false = true
  shape : Shape l v a0 (fun j => listed.getD j false) a
  world : ∀ i, i ≤ l.length → (∀ (j : Nat) (o : Oper), l[j]? = some o → isStore o = true → listed.getD j false = decide (j < i)) → C i w

section
variable {P : Program} {X : Thr} {st : List Nat} {E : World → Prop} {l : List Oper} {A : Nat → Act} {C D : Nat → World → Prop} {v : Nat → Value} {cl : Nat → Nat → Bool} {listed : Array Bool} {a : Act} {w : World}
theorem Inv.down (ok : Ok st l cl) (h : Inv l v (A 0) C listed a w) : ∀ (n i j : Nat), i < n → (∃ o, l[i]? = some o) → (∃ o, l[j]? = some o) → cl i j = true → listed.getD i false = true → listed.getD j false = true
  | 0, _, _, hi, _, _, _, _ => absurd hi (by omega)
  | n + 1, i, j, hi, ⟨o, ho⟩, ⟨oj, hj⟩, hc, hl => by
    obtain ⟨e, he, hb, h'⟩ := ok.cert i j o oj ho hj hc
    have h1 := h.closed i o ho hl e he hb
    rcases h' with rfl | h'
    · exact h1
    · have hd := ok.down i o ho e he hb
      have hlt : i < l.length := (List.getElem?_eq_some_iff.1 ho).1
      exact Inv.down ok h n e.on j (by omega) ⟨_, List.getElem?_eq_getElem (show e.on < l.length by omega)⟩ ⟨oj, hj⟩ h' h1
/-- What stands between stores is one class. -/
theorem Run.between (hr : Run P X (fun i => st.contains i) E l A C D v) {i : Nat} : ∀ (d k : Nat), k = i + d → k ≤ l.length → (∀ (j : Nat) (o : Oper), l[j]? = some o → isStore o = true → i ≤ j → j < k → False) → C k = C i
  | 0, k, hk, _, _ => by rw [hk]; rfl
  | d + 1, k, hk, hl, hn => by
    have ih := Run.between hr d (k - 1) (by omega) (by omega) (fun j o hj hs h1 h2 => hn j o hj hs h1 (by omega))
    have ho : l[k - 1]? = some (l[k - 1]'(by omega)) := List.getElem?_eq_getElem (by omega)
    have hs : isStore (l[k - 1]'(by omega)) = false := by
      cases h : isStore (l[k - 1]'(by omega))
      · rfl
      · exact (hn _ _ ho h (by omega) (by omega)).elim
    have e : k - 1 + 1 = k := by omega
    cases hf : isFree (l[k - 1]'(by omega))
    · cases hl : isLook (l[k - 1]'(by omega))
      · have := (hr.read _ _ ho hs hf hl).1; rw [e] at this; rw [this, ih]
      · have := (hr.look _ _ ho hs hf hl).1; rw [e] at this; rw [this, ih]
    · have := (hr.free _ _ ho hs hf).1; rw [e] at this; rw [this, ih]
theorem Run.one (hr : Run P X (fun i => st.contains i) E l A C D v) {f : Nat → Bool} {i k : Nat} (hi : i ≤ l.length) (hk : k ≤ l.length) (h1 : ∀ (j : Nat) (o : Oper), l[j]? = some o → isStore o = true → f j = decide (j < i)) (h2 : ∀ (j : Nat) (o : Oper), l[j]? = some o → isStore o = true → f j = decide (j < k)) : C k = C i := by
  rcases Nat.le_total i k with h | h
  · exact hr.between (k - i) k (by omega) hk fun j o hj hs ha hb => by
      have e1 := h1 j o hj hs; have e2 := h2 j o hj hs
      rw [e1] at e2; simp at e2; omega
  · exact (hr.between (i - k) i (by omega) hi fun j o hj hs ha hb => by
      have e1 := h1 j o hj hs; have e2 := h2 j o hj hs
      rw [e1] at e2; simp at e2; omega).symm

theorem Run.steady (hr : Run P X (fun i => st.contains i) E l A C D v) {i : Nat} : ∀ (d k : Nat), k = i + d → k ≤ l.length → (∀ (j : Nat) (o : Oper), l[j]? = some o → isHard o = true → i ≤ j → j < k → False) → D k = D i
  | 0, k, hk, _, _ => by rw [hk]; rfl
  | d + 1, k, hk, hl, hn => by
    have ih := Run.steady hr d (k - 1) (by omega) (by omega) (fun j o hj hs h1 h2 => hn j o hj hs h1 (by omega))
    have ho : l[k - 1]? = some (l[k - 1]'(by omega)) := List.getElem?_eq_getElem (by omega)
    have hs : isHard (l[k - 1]'(by omega)) = false := by
      cases h : isHard (l[k - 1]'(by omega))
      · rfl
      · exact (hn _ _ ho h (by omega) (by omega)).elim
    have e : k - 1 + 1 = k := by omega
    have := hr.soft _ _ ho hs; rw [e] at this; rw [this, ih]
/-- Of the acts the first so many have been. -/
theorem Inv.where_ (ok : Ok st l cl) (h : Inv l v (A 0) C listed a w) : ∃ k, k ≤ l.length ∧ ∀ (j : Nat) (o : Oper), l[j]? = some o → isStore o = true → listed.getD j false = decide (j < k) := by
  have key : ∀ n, n ≤ l.length → (∀ (j : Nat) (o : Oper), l[j]? = some o → isStore o = true → j < n → listed.getD j false = true) ∨ ∃ k, k < n ∧ ∃ o, l[k]? = some o ∧ isStore o = true ∧ listed.getD k false = false ∧ ∀ (j : Nat) (o : Oper), l[j]? = some o → isStore o = true → j < k → listed.getD j false = true := by
    intro n
    induction n with
    | zero => intro _; exact .inl fun j o _ _ hj => absurd hj (by omega)
    | succ n ih =>
      intro hn
      rcases ih (by omega) with h1 | ⟨k, hk, h1⟩
      · have ho : l[n]? = some (l[n]'(by omega)) := List.getElem?_eq_getElem (by omega)
        by_cases hs : isStore (l[n]'(by omega)) = true
        · cases hl : listed.getD n false
          · exact .inr ⟨n, by omega, _, ho, hs, hl, h1⟩
          · refine .inl fun j o hj hso hjn => ?_
            by_cases e : j = n
            · subst e; exact hl
            · exact h1 j o hj hso (by omega)
        · refine .inl fun j o hj hso hjn => ?_
          by_cases e : j = n
          · subst e; rw [ho] at hj; injection hj with hj; subst hj; exact absurd hso hs
          · exact h1 j o hj hso (by omega)
      · exact .inr ⟨k, by omega, h1⟩
  rcases key l.length (Nat.le_refl _) with h1 | ⟨k, hk, o, ho, hs, hl, h1⟩
  · refine ⟨l.length, Nat.le_refl _, fun j o hj hso => ?_⟩
    have := (List.getElem?_eq_some_iff.1 hj).1
    rw [h1 j o hj hso this]; simp [this]
  · refine ⟨k, by omega, fun j oj hj hsj => ?_⟩
    by_cases hjk : j < k
    · rw [h1 j oj hj hsj hjk]; simp [hjk]
    · by_cases e : j = k
      · subst e; rw [hl]; simp
      · have hf : isFree o = false := store_free hs
        have hlk : isLook o = false := store_look hs
        have hc := ok.store k j o oj ho hj (fun e' => e e'.symm) hsj hf (by simp [hlk])
        rw [if_neg (by omega)] at hc
        cases hlj : listed.getD j false
        · simp [hjk]
        · have := h.down ok l.length j k (List.getElem?_eq_some_iff.1 hj).1 ⟨oj, hj⟩ ⟨o, ho⟩ hc hlj
          rw [hl] at this; cases this
theorem Inv.step (hr : Run P X (fun i => st.contains i) E l A C D v) (ok : Ok st l cl) (h : Inv l v (A 0) C listed a w) {Q : Exit → Act → World → Prop} (hX : ∀ a', a'.defers = (A 0).defers → ∀ ch w', X ch w' → Q (.panic ch) a' w') {i : Nat} (hi : i ∈ Region.ready .any l.toArray listed) :
    wpOp P l.toArray Q i (fun a' w' => Inv l v (A 0) C (listed.setIfInBounds i true) a' w') a w := by
  obtain ⟨hun, o, ho', hdeps⟩ := mem_ready.1 hi
  have ho : l[i]? = some o := by simpa using ho'
  have hil : i < l.length := (List.getElem?_eq_some_iff.1 ho).1
  have his : i < listed.size := by rw [h.size]; exact hil
  have hun' : listed.getD i false = false := by simp [his] at hun ⊢; exact hun
  -- who is waited for has been; who waits has not
  have before : ∀ j oj, l[j]? = some oj → cl i j = true → listed.getD j false = true := fun j oj hj hc => by
    obtain ⟨e, he, hb, h'⟩ := ok.cert i j o oj ho hj hc
    have h1 := hdeps e he hb
    rcases h' with rfl | h'
    · exact h1
    · have hd := ok.down i o ho e he hb
      exact h.down ok l.length e.on j (by omega) ⟨_, List.getElem?_eq_getElem (show e.on < l.length by omega)⟩ ⟨oj, hj⟩ h' h1
  have behind : ∀ j oj, l[j]? = some oj → cl j i = true → listed.getD j false = false := fun j oj hj hc => by
    cases hl : listed.getD j false
    · rfl
    · have hjl : j < l.length := (List.getElem?_eq_some_iff.1 hj).1
      have := h.down ok l.length j i hjl ⟨oj, hj⟩ ⟨o, ho⟩ hc hl
      rw [hun'] at this; cases this
  have exec : execOp a.eval o = execOp (A i).eval o := execOp_congr o (fun cs b => Region.noSelect_spec ok.sel i o cs b ho') fun x hx => by
    cases x with
    | tmp t =>
      have ht : t ∈ o.looksAt l.toArray := List.mem_append_left _ (List.mem_filterMap.2 ⟨.tmp t, by simpa using hx, rfl⟩)
      have e := h.shape.same (hr.shape ok.dist i (by omega)) (t := t) fun j oj hj hd => by
        by_cases hji : j = i
        · subst hji; rw [hun']; simp
        · have hc := ok.looks i j o oj t ho hj (fun e => hji e.symm) hd ht
          by_cases hlt : j < i
          · rw [if_pos hlt] at hc; rw [before j oj hj hc]; simp [hlt]
          · rw [if_neg hlt] at hc; rw [behind j oj hj hc]; simp [hlt]
      simp only [Act.eval, Array.getD_eq_getD_getElem?, e]
    | const => rfl
    | global => rfl
    | func => rfl
  have hg := ok.guard i o ho
  have getset : ∀ j, (listed.setIfInBounds i true).getD j false = (listed.getD j false || j == i) := fun j => by
    by_cases hji : j = i
    · subst hji; simp [his]
    · rw [getD_set_ne false (fun e => hji e.symm)]; simp [hji]
  -- what is left of the invariant, whatever comes of the world
  have next : ∀ w', (∀ k, k ≤ l.length → (∀ (j : Nat) (oj : Oper), l[j]? = some oj → isStore oj = true → (listed.getD j false || j == i) = decide (j < k)) → C k w') → Inv l v (A 0) C (listed.setIfInBounds i true) (a.put o.dst (v i)) w' := fun w' hw => by
    refine ⟨by simp [h.size], fun j oj hj hl e he hb => ?_, (h.shape.put ok.dist ho).congr fun j oj hj => (getset j).symm, fun k hk hst => hw k hk fun j oj hj hs => by rw [← getset j]; exact hst j oj hj hs⟩
    rw [getset] at hl ⊢
    simp only [Bool.or_eq_true, beq_iff_eq] at hl ⊢
    rcases hl with hl | rfl
    · exact .inl (h.closed j oj hj hl e he hb)
    · rw [ho] at hj; injection hj with hj; subst hj; exact .inl (hdeps e he hb)
  unfold wpOp
  simp only [ho', Region.wanted, hg, if_true]
  refine .inl ?_
  cases hs : isStore o
  · cases hf : isFree o
    · cases hl : isLook o
      · -- a call
        have here : ∀ (j : Nat) (oj : Oper), l[j]? = some oj → isStore oj = true → listed.getD j false = decide (j < i) := fun j oj hj hsj => by
          have hji : j ≠ i := fun e => by subst e; rw [ho] at hj; injection hj with hj; subst hj; rw [hs] at hsj; cases hsj
          have hc := ok.store i j o oj ho hj (fun e => hji e.symm) hsj hf (by simp [hl])
          by_cases hlt : j < i
          · rw [if_pos hlt] at hc; rw [before j oj hj hc]; simp [hlt]
          · rw [if_neg hlt] at hc; rw [behind j oj hj hc]; simp [hlt]
        have hw := h.world i (by omega) here
        refine (((hr.read i o ho hs hf hl).2 w hw).congr exec).wp (fun ch w' hq => hX _ h.shape.defers ch w' hq) fun w' hw' => next w' fun k hk hst => ?_
        have hst' : ∀ (j : Nat) (oj : Oper), l[j]? = some oj → isStore oj = true → listed.getD j false = decide (j < k) := fun j oj hj hsj => by
          have hji : j ≠ i := fun e => by subst e; rw [ho] at hj; injection hj with hj; subst hj; rw [hs] at hsj; cases hsj
          have := hst j oj hj hsj; rw [show (j == i) = false from by simpa using hji, Bool.or_false] at this; exact this
        rw [hr.one (f := fun j => listed.getD j false) (by omega) hk here hst']; exact hw'
      · -- a look
        obtain ⟨k0, hk0, hat⟩ := h.where_ ok
        have hD : if st.contains i then E w else D i w := by
          have h00 := hr.held k0 hk0 w (h.world k0 hk0 hat)
          by_cases hst0 : st.contains i = true
          · rw [if_pos hst0]; exact h00.2
          rw [if_neg hst0]
          have h0 := h00.1
          have hst0 : st.contains i = false := by simpa using hst0
          have hard : ∀ (j : Nat) (oj : Oper), l[j]? = some oj → isHard oj = true → listed.getD j false = decide (j < i) ∧ j ≠ i := fun j oj hj hhj => by
            have hsj : isStore oj = true := by simp [isStore, hhj]
            have hji : j ≠ i := fun e => by subst e; rw [ho] at hj; injection hj with hj; subst hj; rw [hs] at hsj; cases hsj
            have hc := ok.store i j o oj ho hj (fun e => hji e.symm) hsj hf (by rw [hhj, hst0]; simp)
            by_cases hlt : j < i
            · rw [if_pos hlt] at hc; rw [before j oj hj hc]; simp [hlt, hji]
            · rw [if_neg hlt] at hc; rw [behind j oj hj hc]; simp [hlt, hji]
          have none : ∀ (j : Nat) (oj : Oper), l[j]? = some oj → isHard oj = true → decide (j < k0) = decide (j < i) := fun j oj hj hhj => by
            rw [← hat j oj hj (by simp [isStore, hhj])]; exact (hard j oj hj hhj).1
          rcases Nat.le_total i k0 with hle | hle
          · rw [hr.steady (i := i) (k0 - i) k0 (by omega) hk0 fun j oj hj hh h1 h2 => by
              have := none j oj hj hh; simp [h2] at this; omega] at h0
            exact h0
          · rw [← hr.steady (i := k0) (i - k0) i (by omega) (by omega) fun j oj hj hh h1 h2 => by
              have := none j oj hj hh; simp [h2] at this; omega] at h0
            exact h0
        refine (((hr.look i o ho hs hf hl).2 w hD).congr exec).wp (fun ch w' hq => hX _ h.shape.defers ch w' hq) fun w' hw' => next w' fun k hk hst => ?_
        subst hw'
        refine h.world k hk fun j oj hj hsj => ?_
        have hji : j ≠ i := fun e => by subst e; rw [ho] at hj; injection hj with hj; subst hj; rw [hs] at hsj; cases hsj
        have := hst j oj hj hsj; rw [show (j == i) = false from by simpa using hji, Bool.or_false] at this; exact this
    · -- nothing of the world
      refine (((hr.free i o ho hs hf).2 w).congr exec).wp (fun ch w' hq => hX _ h.shape.defers ch w' hq) fun w' hw' => next w' fun k hk hst => ?_
      subst hw'
      refine h.world k hk fun j oj hj hsj => ?_
      have hji : j ≠ i := fun e => by subst e; rw [ho] at hj; injection hj with hj; subst hj; rw [hs] at hsj; cases hsj
      have := hst j oj hj hsj; rw [show (j == i) = false from by simpa using hji, Bool.or_false] at this; exact this
  · -- a store
    have hf : isFree o = false := store_free hs
    have hlk : isLook o = false := store_look hs
    have here : ∀ (j : Nat) (oj : Oper), l[j]? = some oj → isStore oj = true → listed.getD j false = decide (j < i) := fun j oj hj hsj => by
      by_cases hji : j = i
      · subst hji; rw [hun']; simp
      · have hc := ok.store i j o oj ho hj (fun e => hji e.symm) hsj hf (by simp [hlk])
        by_cases hlt : j < i
        · rw [if_pos hlt] at hc; rw [before j oj hj hc]; simp [hlt]
        · rw [if_neg hlt] at hc; rw [behind j oj hj hc]; simp [hlt]
    have hw := h.world i (by omega) here
    have hgv := hr.store i o ho hs w hw
    refine (hgv.congr exec).wp (fun ch w' hq => hX _ h.shape.defers ch w' hq) fun w' hw' => next w' fun k hk hst => ?_
    have h1 : ∀ (j : Nat) (oj : Oper), l[j]? = some oj → isStore oj = true → (listed.getD j false || j == i) = decide (j < i + 1) := fun j oj hj hsj => by
      rw [here j oj hj hsj, Bool.eq_iff_iff]; simp; omega
    rw [hr.one (f := fun j => listed.getD j false || j == i) (by omega) hk h1 hst]; exact hw'

theorem Inv.all_ (hr : Run P X (fun i => st.contains i) E l A C D v) (ok : Ok st l cl) {Q : Exit → Act → World → Prop} (hX : ∀ a', a'.defers = (A 0).defers → ∀ ch w', X ch w' → Q (.panic ch) a' w') (hQ : ∀ w, C l.length w → Q .normal (A l.length) w) : ∀ (n : Nat) (listed : Array Bool) (a : Act) (w : World), Inv l v (A 0) C listed a w → unl (fun i => listed.getD i false) l.length ≤ n →
    wpAny P .any l.toArray Q n listed a w := by
  have last : ∀ (listed : Array Bool) (a : Act) (w : World), Inv l v (A 0) C listed a w → (∀ i, i < l.length → listed.getD i false = true) → Q .normal a w := fun listed a w h hall => by
    have e : a = A l.length := h.shape.ext (hr.shape ok.dist l.length (Nat.le_refl _)) fun j o hj => by
      have hjl : j < l.length := (List.getElem?_eq_some_iff.1 hj).1
      rw [hall j hjl]; simp [hjl]
    rw [e]
    exact hQ w (h.world l.length (Nat.le_refl _) fun j o hj _ => by
      have hjl : j < l.length := (List.getElem?_eq_some_iff.1 hj).1
      rw [hall j hjl]; simp [hjl])
  intro n
  induction n with
  | zero =>
    intro listed a w h hn
    have hall := unl_zero (f := fun i => listed.getD i false) (n := l.length) (by omega)
    refine ⟨?_, last listed a w h hall⟩
    cases hr' : Region.ready .any l.toArray listed with
    | nil => rfl
    | cons i is =>
      have hi : i ∈ Region.ready .any l.toArray listed := by rw [hr']; simp
      obtain ⟨hun, o, ho', _⟩ := mem_ready.1 hi
      have hil : i < l.length := by have := (Array.getElem?_eq_some_iff.1 ho').1; simpa using this
      have := hall i hil
      have his : i < listed.size := by rw [h.size]; exact hil
      simp [his] at hun this
      rw [this] at hun; cases hun
  | succ n ih =>
    intro listed a w h hn
    refine ⟨fun hr' => last listed a w h fun i hi => ?_, fun i hi => ?_⟩
    · induction i using Nat.strongRecOn with
      | _ i ihi =>
        cases hu : listed.getD i false
        · have ho : l[i]? = some (l[i]'hi) := List.getElem?_eq_getElem hi
          have : i ∈ Region.ready .any l.toArray listed := mem_ready.2 ⟨by
            have his : i < listed.size := by rw [h.size]; exact hi
            simp [his] at hu ⊢; exact hu, _, (by rw [List.getElem?_toArray]; exact ho), fun e he hb => by
            have hd := ok.down i _ ho e he hb
            exact ihi e.on hd (by omega)⟩
          rw [hr'] at this; cases this
        · rfl
    · refine wpOp_mono (fun a' w' h' => ih _ a' w' h' ?_) (h.step hr ok hX hi)
      obtain ⟨hun, o, ho', _⟩ := mem_ready.1 hi
      have hil : i < l.length := by have := (Array.getElem?_eq_some_iff.1 ho').1; simpa using this
      have his : i < listed.size := by rw [h.size]; exact hil
      have := unl_set (f := fun i => listed.getD i false) (g := fun j => (listed.setIfInBounds i true).getD j false) (i := i) (by simp [his] at hun ⊢; exact hun) (by simp [his]) (fun j hj => getD_set_ne false (fun e => hj e.symm)) hil
      omega

/-- **One walk serves every order.** -/
theorem any_of_lex {Q : Exit → Act → World → Prop} (hX : ∀ a', a'.defers = a.defers → ∀ ch w', X ch w' → Q (.panic ch) a' w') (hB : okB st l = true) (C0 D0 : World → Prop) (hC : C0 w.drew) (hCD : ∀ w, C0 w → D0 w ∧ E w)
    (h : wpLex P X st E (fun a' C' => ∀ w', C' w' → Q .normal a' w') l 0 a C0 D0) : wpAny P .any l.toArray Q l.toArray.size (Array.replicate l.toArray.size false) a w.drew := by
  obtain ⟨A, Cs, Ds, v, hr, hA, hC0, hD0, hQ⟩ := run_of_lex l 0 a C0 D0 hCD h
  simp only [Nat.zero_add] at hr
  have ok := Ok.of st l hB
  have hinv : Inv l v (A 0) Cs (Array.replicate l.toArray.size false) a w.drew := by
    have hg : ∀ i, (Array.replicate l.length false).getD i false = false := fun i => by
      by_cases hi : i < l.length <;> simp [hi]
    refine ⟨by simp, fun i o ho hl => ?_, ?_, fun i hi hst => ?_⟩
    · simp only [List.size_toArray] at hl; rw [hg i] at hl; cases hl
    · rw [hA]; exact Shape.start.congr fun j o _ => by simp only [List.size_toArray]; rw [hg j]
    · have e : Cs i = Cs 0 := hr.between i i (by omega) hi fun j o hj hs h0 hlt => by
        have := hst j o hj hs
        simp only [List.size_toArray] at this
        rw [hg j] at this; simp at this; omega
      rw [e, hC0]; exact hC
  have := Inv.all_ hr ok (Q := Q) (by rw [hA]; exact hX) hQ l.toArray.size _ _ _ hinv (by have := unl_le (fun i => (Array.replicate l.toArray.size false).getD i false) l.length; simpa using this)
  exact this
end
theorem wp_region_lex {P : Program} {X : Thr} {l : List Oper} {a : Act} {w : World} {id : Nat} {Q : Exit → Act → World → Prop} (hm : P.follows .mixedOrders = true) (st : List Nat) (hB : okB st l = true) (C0 D0 E : World → Prop) (hC : C0 w.drew) (hCD : ∀ w, C0 w → D0 w ∧ E w) (hX : ∀ a', a'.defers = a.defers → ∀ ch w', X ch w' → Q (.panic ch) a' w')
    (h : wpLex P X st E (fun a' C' => ∀ w', C' w' → Q .normal a' w') l 0 a C0 D0) : (Code.region id l.toArray true).wp P Q a w :=
  wp_region_any hm (any_of_lex hX hB C0 D0 hC hCD h)

/-! The walk's steps. -/
section
variable {P : Program} {X : Thr} {st : List Nat} {E : World → Prop} {Q : Act → (World → Prop) → Prop} {o : Oper} {rest : List Oper} {n : Nat} {a : Act} {C D : World → Prop} {W : World}
theorem lex_free (hs : isStore o = false) (hf : isFree o = true) {v : Value} (hrun : ∀ w, (execOp a.eval o).run P w = .ok (.value v) w) (h : wpLex P X st E Q rest (n + 1) (a.put o.dst v) C D) : wpLex P X st E Q (o :: rest) n a C D := by
  unfold wpLex
  rw [if_neg (by simp [hs]), if_pos hf]
  exact ⟨v, fun w => by unfold Gives; rw [hrun w]; exact ⟨rfl, rfl⟩, h⟩
theorem lex_look (hs : isStore o = false) (hf : isFree o = false) (hl : isLook o = true) (hst : st.contains n = false) {v : Value} (hrun : ∀ w, D w → (execOp a.eval o).run P w = .ok (.value v) w) (h : wpLex P X st E Q rest (n + 1) (a.put o.dst v) C D) : wpLex P X st E Q (o :: rest) n a C D := by
  unfold wpLex
  rw [if_neg (by simp [hs]), if_neg (by simp [hf]), if_pos hl]
  exact ⟨v, fun w hw => by rw [if_neg (by rw [hst]; simp)] at hw; unfold Gives; rw [hrun w hw]; exact ⟨rfl, rfl⟩, h⟩
theorem lex_steady (hs : isStore o = false) (hf : isFree o = false) (hl : isLook o = true) (hst : st.contains n = true) {v : Value} (hrun : ∀ w, E w → (execOp a.eval o).run P w = .ok (.value v) w) (h : wpLex P X st E Q rest (n + 1) (a.put o.dst v) C D) : wpLex P X st E Q (o :: rest) n a C D := by
  unfold wpLex
  rw [if_neg (by simp [hs]), if_neg (by simp [hf]), if_pos hl]
  exact ⟨v, fun w hw => by rw [if_pos hst] at hw; unfold Gives; rw [hrun w hw]; exact ⟨rfl, rfl⟩, h⟩
/-- A function is called: it may leave another class. -/
theorem lex_call (hs : isStore o = true) {C' : World → Prop} {v : Value} {f : FuncId} {args : Array Value} (hrun : ∀ w, C w → (execOp a.eval o).run P w = .ok (.enter f args) w) (hc : ∀ w, C w → Calls P f args w fun e w' => (e = .returned v ∧ C' w') ∨ ∃ ch, e = .panicked ch ∧ X ch w') (hD : ∀ w, C' w → D w ∧ E w) (h : wpLex P X st E Q rest (n + 1) (a.put o.dst v) C' D) : wpLex P X st E Q (o :: rest) n a C D := by
  unfold wpLex
  rw [if_pos hs]
  exact ⟨v, C', D, fun w hw => by unfold Gives; rw [hrun w hw]; exact hc w hw, fun _ => rfl, hD, h⟩
/-- Memory is made; the world is known. -/
theorem lex_make (hs : isStore o = true) {v : Value} {W' : World} (hrun : (execOp a.eval o).run P W = .ok (.value v) W') (hD : D W' ∧ E W') (h : wpLex P X st E Q rest (n + 1) (a.put o.dst v) (· = W') D) : wpLex P X st E Q (o :: rest) n a (· = W) D := by
  unfold wpLex
  rw [if_pos hs]
  exact ⟨v, (· = W'), D, fun w hw => by subst hw; unfold Gives; rw [hrun]; exact ⟨rfl, rfl⟩, fun _ => rfl, fun w hw => hw ▸ hD, h⟩
theorem lex_store (hs : isStore o = true) (hh : isHard o = true) {C' D' : World → Prop} (hrun : ∀ w, C w → ∃ W', (execOp a.eval o).run P w = .ok .skip W' ∧ C' W') (hD : ∀ w, C' w → D' w ∧ E w) (h : wpLex P X st E Q rest (n + 1) (a.put o.dst undef) C' D') : wpLex P X st E Q (o :: rest) n a C D := by
  unfold wpLex
  rw [if_pos hs]
  exact ⟨undef, C', D', fun w hw => by obtain ⟨W', h1, h2⟩ := hrun w hw; unfold Gives; rw [h1]; exact ⟨rfl, h2⟩, fun e => by (rw [hh] at e; cases e), hD, h⟩
theorem lex_end {Q : Exit → Act → World → Prop} (h : ∀ w', C w' → Q .normal a w') : wpLex P X st E (fun a' C' => ∀ w', C' w' → Q .normal a' w') [] n a C D := h
end
end Rx

/-
The program's image: a flight, a seat, a ship are read, whatever bytes there are.
-/



namespace Go.Proofs.Ytbihnmingedgfaa
open Go.RowKit Go.Shelf
set_option linter.unusedVariables false
set_option linter.unusedSimpArgs false

theorem need_any (v : Bool) (s : ByteArray) (w : World) : Calls Try.prog 76 #[.bool v, .string s] w fun e w' => (v = true ∧ e = .returned (.tuple #[]) ∧ w = w') ∨ (v = false ∧ Pan e ∧ w = w') := by
  cases v
  · exact (need_no s w).mono fun e w' ⟨h1, h2⟩ => .inr ⟨rfl, ⟨s, h1⟩, h2⟩
  · exact (need_yes s w).mono fun e w' ⟨h1, h2⟩ => .inl ⟨rfl, h1, h2⟩

/-- What a layout leaves that reads into block P, told by a property. -/
def GotP {α : Type} (b Bb Bp P : Nat) (t : TypeId) (size : Nat) (r : Option (α × List Int)) (F : α → Array Value → Prop) (w : World) (e : Ending) (w' : World) : Prop :=
  (∃ v rest, r = some (v, rest) ∧ e = .returned (.tuple #[]) ∧ Rd b Bb Bp rest w' ∧ Rk b Bb P w w' ∧ ∃ cs', Box w' P t cs' ∧ F v cs') ∨ (r = none ∧ Pan e ∧ Rk b Bb P w w' ∧ ∃ cs', Box w' P t cs' ∧ cs'.size = size)
def Im.i32s (l : List Int) : List Value := l.map fun x => .int .i32 x

set_option maxRecDepth 100000 in
set_option maxHeartbeats 2000000 in
theorem layflight_any (P o Bq : Nat) (t : TypeId) (cs : Array Value) (bs : List Int) (b Bb Bp : Nat) (w : World) (hBy : Im.IsBytes bs) (hbB : b ≤ Bb) (hbP : b ≤ P) (hbw : b ≤ w.heap.size) (h : Rd b Bb Bp bs w) (hP : Box w P t cs) (ho : ∀ k, k < 4 → cs[o + k]? = some (.int .i32 0)) (h1 : t ≠ 54) (h2 : t ≠ 5) (h3 : t ≠ 120) (hPq : Bq ≠ P)
    (hq : Box w Bq 180 #[.pointer (some ⟨P, o + 0, none⟩), .pointer (some ⟨P, o + 1, none⟩), .pointer (some ⟨P, o + 2, none⟩), .pointer (some ⟨P, o + 3, none⟩)]) (c : Nat) :
    Calls Try.prog 153 #[.func (.func 130) #[] #[.pointer (some ⟨Bp, 0, none⟩)], .slice (some ⟨Bq, 0, none⟩) 4 c] w (GotP b Bb Bp P t cs.size (Im.decParts 4 [] bs) (fun l cs' => l.length = 4 ∧ cs'.size = cs.size ∧ Im.Patch cs o (Im.i32s l) cs') w) := by
  have HH := Lib.hid h
  have HP := Lib.hid hP
  have HQ := Lib.hid hq
  have HW := Lib.hid hbw
  have HY := Lib.hid hBy
  clear h hP hq hbw hBy
  go_enter Try.func153, Try.ntmps153
  go_wp2
  go_loopw [8] (fun i wr => ∃ (k : Nat) (l bs' : List Int), k ≤ 4 ∧ i = .int .i64 k ∧ l.length = k ∧ Im.IsBytes bs' ∧ Im.decParts 4 [] bs = Im.decParts (4 - k) l bs' ∧ Rd b Bb Bp bs' wr ∧ Rk b Bb P w wr ∧ ∃ cs', Box wr P t cs' ∧ cs'.size = cs.size ∧ Im.Patch cs o (Im.i32s l) cs') (fun i _ => 4 - (intOf i).toNat)
  case atStart => exact ⟨0, [], bs, by omega, rfl, rfl, HY.out, rfl, HH.out, Rk.refl _ _ _ _, cs, HP.out, rfl, Im.Patch.nil _ _⟩
  case round =>
    obtain ⟨k, l, bs', hk, rfl, hlen, hy, hdec, hI, hK, cs', hB, hsz, hpt⟩ := hrel
    by_cases hlt : k < 4
    · have hk8 : (k : Int) < 4 := by omega
      have Q1 := hK.kb _ _ _ HQ.out hPq (by decide) (by decide)
      have qc := Q1.cell k
      have hqk : (#[.pointer (some ⟨P, o + 0, none⟩), .pointer (some ⟨P, o + 1, none⟩), .pointer (some ⟨P, o + 2, none⟩), .pointer (some ⟨P, o + 3, none⟩)] : Array Value)[k]? = some (.pointer (some ⟨P, o + k, none⟩)) := by
        match k, hlt with
        | 0, _ | 1, _ | 2, _ | 3, _ => rfl
      rw [hqk] at qc
      rw [show 4 - k = (4 - (k + 1)) + 1 by omega] at hdec
      have il : (Im.i32s l).length = k := by unfold Im.i32s; rw [List.length_map, hlen]
      have hc0 : cs'[o + k]? = some (.int .i32 0) := (hpt.cell (.inr (by rw [il]; omega))).trans (ho k hlt)
      have cl := Lib.hid (part_i32 4 4 rfl 0 P (o + k) t cs' bs' b Bb Bp wr (by decide) hy hbB hbP (Nat.le_trans HW.out hK.below.size) hI hB hc0 h1 h2 h3)
      have HN := Lib.hid (show Im.decParts 4 [] bs = (Im.rdn 4 bs').bind fun q => Im.decParts (4 - (k + 1)) (l ++ [IntKind.i32.wrap q.1]) q.2 from hdec)
      have HPT := Lib.hid (fun v : Int => hpt.trans (Im.Patch.one (.int .i32 v) hc0) (by rw [il]))
      have HK := Lib.hid hK
      have HSZ := Lib.hid hsz
      have HLEN := Lib.hid hlen
      have HYY := Lib.hid hy
      clear hI hK hB Q1 hqk hpt hc0 hdec hsz il hlen hy
      go_wp2_with (go_at_call 161; ((with_reducible refine (cl.out).mono ?_); rintro e w1 (⟨y, r1, hr, rfl, hI1, hK1, hB1⟩ | ⟨hn, ⟨ss, rfl⟩, hK1, cs2, hB1, hs⟩); (all_goals first | (have R1 := Lib.hid hr; have I1 := Lib.hid hI1; have K1 := Lib.hid (HK.out.trans hK1); have B1 := Lib.hid hB1; clear hr hI1 hK1 hB1 qc) | (have N1 := Lib.hid hn; have F1 := Lib.hid (HK.out.trans hK1); have B1 := Lib.hid hB1; have S1 := Lib.hid hs; clear hn hK1 hB1 hs qc))))
      · go_roundw
        case rel => exact ⟨k + 1, l ++ [IntKind.i32.wrap y], r1, by omega, by go_num, by rw [List.length_append, HLEN.out]; rfl, (Im.rdn_inv HYY.out R1.out).2.2.2, by rw [HN.out, R1.out, Option.bind_some], I1.out, K1.out, _, B1.out, by simp [HSZ.out], by
          have := HPT.out (IntKind.i32.wrap y)
          unfold Im.i32s at this ⊢
          rw [List.map_append]
          exact this⟩
        case measure => simp [intOf]; omega
      · refine ⟨rfl, .inr ⟨?_, ⟨_, rfl⟩, F1.out, _, B1.out, S1.out.trans HSZ.out⟩⟩
        rw [HN.out, N1.out, Option.bind_none]
    · have hk8 : ¬ (k : Int) < 4 := by omega
      obtain rfl : k = 4 := by omega
      have HI := Lib.hid hI
      have HK := Lib.hid hK
      have HB := Lib.hid hB
      have HPT := Lib.hid (And.intro hlen (And.intro hsz hpt))
      have HD := Lib.hid hdec
      clear hI hK hB hpt hsz hlen hdec
      go_wp2
      go_end0
      exact .inl ⟨l, bs', HD.out, rfl, HI.out, HK.out, cs', HB.out, HPT.out⟩

set_option maxRecDepth 100000 in
set_option maxHeartbeats 2000000 in
theorem layseat_any (P o : Nat) (t : TypeId) (cs : Array Value) (bs : List Int) (b Bb Bp : Nat) (w : World) (hBy : Im.IsBytes bs) (hbB : b ≤ Bb) (hbP : b ≤ P) (hbw : b ≤ w.heap.size) (h : Rd b Bb Bp bs w) (hP : Box w P t cs) (ho : cs[o]? = some (.int .i64 0)) (ho1 : cs[o + 1]? = some (.int .i64 0)) (h1 : t ≠ 54) (h2 : t ≠ 5) (h3 : t ≠ 120) :
    Calls Try.prog 128 #[.func (.func 130) #[] #[.pointer (some ⟨Bp, 0, none⟩)], .pointer (some ⟨P, o, none⟩)] w (Got b Bb Bp P t cs.size (Im.decSeat bs) (fun q => (cs.setIfInBounds o (.int .i64 q.1)).setIfInBounds (o + 1) (.int .i64 q.2)) w) := by
  have k0 := hP.cell o
  rw [ho] at k0
  have ltP := hP.lt
  have HPA := Lib.hid (hP.alloc (.cells #[.int .i64 1] 3))
  have HKA := Lib.hid (Rk.alloc (w := w) (Bb := Bb) (P := P) hbw (.cells #[.int .i64 1] 3))
  have c1 := Lib.hid (part_int 1 1 rfl 1 w.heap.size 0 3 #[.int .i64 1] bs b Bb Bp _ (by decide) hBy hbB hbw (by simp <;> omega) (h.call (one_below w (.cells #[.int .i64 1] 3)) hbw) (Box.made w 3 #[.int .i64 1]) rfl (by decide) (by decide) (by decide))
  have e1 : ∀ v, (cs.setIfInBounds o v)[o + 1]? = some (.int .i64 0) := fun v => by rw [Array.getElem?_setIfInBounds_ne (by omega), ho1]
  have c2 := fun v bs' X hy hX1 hX2 hX3 => Lib.hid (part_int 2 2 rfl 0 P (o + 1) t (cs.setIfInBounds o v) bs' b Bb Bp X (by decide) hy hbB hbP hX1 hX2 hX3 (e1 v) h1 h2 h3)
  have HO := Lib.hid ho
  have HB := Lib.hid hbP
  have HW := Lib.hid hbw
  have HY := Lib.hid hBy
  have HD := Lib.hid (show Im.decSeat bs = (Im.rdn 1 bs).bind fun p => (Im.rdn 2 p.2).bind fun g => some ((p.1 - 1, g.1), g.2) from rfl)
  clear h hP ho ho1 e1 hBy
  go_enter Try.func128, Try.ntmps128
  go_upto_region 2 with (go_at_call 124; ((with_reducible refine (c1.out).mono ?_); rintro e w1 (⟨y, r1, hr, rfl, hI1, hK1, hL1⟩ | ⟨hn, ⟨ss, rfl⟩, hK1, cs2, hL1, hs⟩); (all_goals first | (have R1 := Lib.hid hr; have Y1 := Lib.hid (Im.rdn_inv HY.out hr); have l1 := hL1.cell 0; have P1 := Lib.hid (hK1.kb _ _ _ HPA.out (by omega) h1 h2); have p1 := P1.out.cell o; rw [HO.out] at p1; have f1 := P1.out.free o; have I1 := Lib.hid hI1; have K1 := Lib.hid (HKA.out.local hK1 (Nat.le_refl _)); clear hr hI1 hK1 hL1 k0 c1) | (have N1 := Lib.hid hn; have F1 := Lib.hid (HKA.out.local hK1 (Nat.le_refl _)); have G1 := Lib.hid (hK1.kb _ _ _ HPA.out (by omega) h1 h2); clear hn hK1 hL1 hs k0 c1))))
  rotate_left
  · refine ⟨rfl, .inr ⟨?_, ⟨_, rfl⟩, F1.out, _, G1.out, rfl⟩⟩
    rw [HD.out, N1.out, Option.bind_none]
  have hw4 : IntKind.i64.wrap (y - 1) = y - 1 := by have := Y1.out.2.1; have := Y1.out.2.2.1; rw [IntKind.wrap_i64]; omega
  simp only [List.getElem?_toArray, Array.setIfInBounds, List.size_toArray, List.length_cons, List.length_nil, Nat.zero_add, Nat.lt_add_one, dite_true, List.set_toArray, List.set_cons_zero, List.getElem?_cons_zero] at l1
  go_wp2_with (go_at_call 124; ((with_reducible refine ((c2 _ _ _ Y1.out.2.2.2 (Nat.le_trans HW.out (K1.out.put HB.out _ _).below.size) (I1.out.off (p := ⟨P, o, none⟩) P1.out h3 h1 HB.out _) (P1.out.put o _)).out).mono ?_); rintro e w2 (⟨y2, r2, hr, rfl, hI2, hK2, hL2⟩ | ⟨hn, ⟨ss, rfl⟩, hK2, cs2, hL2, hs⟩); (all_goals first | (have R2 := Lib.hid hr; have I2 := Lib.hid hI2; have P2 := Lib.hid hL2; have K2 := Lib.hid ((K1.out.put HB.out _ _).trans hK2); clear hr hI2 hK2 hL2) | (have N2 := Lib.hid hn; have F2 := Lib.hid ((K1.out.put HB.out _ _).trans hK2); have G2 := Lib.hid hL2; have S2 := Lib.hid hs; clear hn hK2 hL2 hs))))
  · go_end0
    exact .inl ⟨(y - 1, y2), r2, by rw [HD.out, R1.out, Option.bind_some, R2.out, Option.bind_some], rfl, I2.out, K2.out, P2.out⟩
  · refine ⟨rfl, .inr ⟨?_, ⟨_, rfl⟩, F2.out, _, G2.out, by rw [S2.out]; simp⟩⟩
    rw [HD.out, R1.out, Option.bind_some, N2.out, Option.bind_none]
end Go.Proofs.Ytbihnmingedgfaa

/-
The program's image: a ship is read, whatever bytes there are.
-/

namespace Go.Proofs.Ytbihnmingedgfaa
open Go.RowKit Go.Shelf
set_option linter.unusedVariables false
set_option linter.unusedSimpArgs false

theorem four_is {l : List Int} (h : l.length = 4) : ∃ a b c d, l = [a, b, c, d] := by
  match l, h with
  | [a, b, c, d], _ => exact ⟨a, b, c, d, rfl⟩

set_option maxRecDepth 100000 in
set_option maxHeartbeats 4000000 in
theorem layship_any (P o : Nat) (t : TypeId) (cs : Array Value) (bs : List Int) (b Bb Bp : Nat) (w : World) (hBy : Im.IsBytes bs) (hbB : b ≤ Bb) (hbP : b ≤ P) (hbw : b ≤ w.heap.size) (h : Rd b Bb Bp bs w) (hP : Box w P t cs)
    (o0 : cs[o]? = some (.bool false)) (oz : ∀ k, k < 4 → cs[o + 1 + k]? = some (.int .i32 0)) (o5 : cs[o + 5]? = some (.int .i64 0)) (o6 : cs[o + 6]? = some (.int .i64 0)) (h1 : t ≠ 54) (h2 : t ≠ 5) (h3 : t ≠ 120) :
    Calls Try.prog 126 #[.func (.func 130) #[] #[.pointer (some ⟨Bp, 0, none⟩)], .pointer (some ⟨P, o, none⟩)] w (GotP b Bb Bp P t cs.size (Im.decShip bs) (fun s cs' => cs'.size = cs.size ∧ Im.Patch cs o s.cells cs') w) := by
  have k0 := hP.cell o
  rw [o0] at k0
  have ltP := hP.lt
  have HPA := Lib.hid (hP.alloc (.cells #[.int .i64 0] 3))
  have HKA := Lib.hid (Rk.alloc (w := w) (Bb := Bb) (P := P) hbw (.cells #[.int .i64 0] 3))
  have c1 := Lib.hid (part_int 1 1 rfl 0 w.heap.size 0 3 #[.int .i64 0] bs b Bb Bp _ (by decide) hBy hbB hbw (by simp <;> omega) (h.call (one_below w (.cells #[.int .i64 0] 3)) hbw) (Box.made w 3 #[.int .i64 0]) rfl (by decide) (by decide) (by decide))
  have HO := Lib.hid o0
  have HB := Lib.hid hbP
  have HW := Lib.hid hbw
  have HY := Lib.hid hBy
  have HD := Lib.hid (show Im.decShip bs = (Im.rdn 1 bs).bind fun o => if o.1 = 0 then some (Gm.Ship.none, o.2) else if o.1 = 1 then (Im.decParts 4 [] o.2).bind fun f => (Im.rdn 1 f.2).bind fun c => (Im.rdn 4 c.2).bind fun s => some (⟨true, f.1.getD 0 0, f.1.getD 1 0, f.1.getD 2 0, f.1.getD 3 0, c.1, s.1⟩, s.2) else none from rfl)
  clear h hP hbw hBy
  go_enter Try.func126, Try.ntmps126
  go_upto_region 4 with (go_at_call 124; ((with_reducible refine (c1.out).mono ?_); rintro e w1 (⟨y, r1, hr, rfl, hI1, hK1, hL1⟩ | ⟨hn, ⟨ss, rfl⟩, hK1, cs2, hL1, hs⟩); (all_goals first | (have R1 := Lib.hid hr; have Y1 := Lib.hid (Im.rdn_inv HY.out hr); have l1 := hL1.cell 0; have P1 := Lib.hid (hK1.kb _ _ _ HPA.out (by omega) h1 h2); have p1 := P1.out.cell o; rw [HO.out] at p1; have f1 := P1.out.free o; have I1 := Lib.hid hI1; have K1 := Lib.hid (HKA.out.local hK1 (Nat.le_refl _)); clear hr hI1 hK1 hL1 k0 c1) | (have N1 := Lib.hid hn; have F1 := Lib.hid (HKA.out.local hK1 (Nat.le_refl _)); have G1 := Lib.hid (hK1.kb _ _ _ HPA.out (by omega) h1 h2); clear hn hK1 hL1 hs k0 c1))))
  rotate_left
  · refine ⟨rfl, .inr ⟨?_, ⟨_, rfl⟩, F1.out, _, G1.out, rfl⟩⟩
    rw [HD.out, N1.out, Option.bind_none]
  simp only [List.getElem?_toArray, Array.setIfInBounds, List.size_toArray, List.length_cons, List.length_nil, Nat.zero_add, Nat.lt_add_one, dite_true, List.set_toArray, List.set_cons_zero, List.getElem?_cons_zero] at l1
  by_cases hy0 : y = 0
  · subst hy0
    have hpt : Im.Patch cs o Gm.Ship.none.cells cs := by
      refine (Im.Patch.nil cs o).more Gm.Ship.none.cells fun i hi => ?_
      simp only [List.length_nil, Nat.add_zero]
      match i, hi with
      | 0, _ => exact o0
      | 1, _ => exact oz 0 (by omega)
      | 2, _ => exact oz 1 (by omega)
      | 3, _ => exact oz 2 (by omega)
      | 4, _ => exact oz 3 (by omega)
      | 5, _ => exact o5
      | 6, _ => exact o6
    have HPT := Lib.hid hpt
    clear hpt oz o5 o6
    go_wp2_with (go_at_call 76; ((with_reducible refine (need_yes _ _).mono ?_); rintro e wn ⟨rfl, rfl⟩))
    refine bodyPost_ret (results_none rfl _ _ _) rfl ?_
    refine .inl ⟨Gm.Ship.none, r1, by rw [HD.out, R1.out, Option.bind_some]; rfl, rfl, I1.out.off (p := ⟨P, o, none⟩) P1.out h3 h1 HB.out _, K1.out.put HB.out _ _, cs, ?_, rfl, HPT.out⟩
    have := P1.out.put o (.bool false)
    rwa [set_same HO.out] at this
  by_cases hy1 : y = 1
  rotate_left
  · have b0 : (y == 0) = false := by simpa using hy0
    have b1 : (y == 1) = false := by simpa using hy1
    have HN := Lib.hid (show Im.decShip bs = none by rw [HD.out, R1.out, Option.bind_some]; dsimp only; rw [if_neg hy0, if_neg hy1])
    clear hy0 hy1
    go_wp2_with (go_at_call 76; ((with_reducible refine (need_no _ _).mono ?_); rintro e wn ⟨rfl, rfl⟩))
    exact ⟨rfl, .inr ⟨HN.out, ⟨_, rfl⟩, K1.out, _, P1.out, rfl⟩⟩
  subst hy1
  have HD1 := Lib.hid (show Im.decShip bs = (Im.decParts 4 [] r1).bind fun f => (Im.rdn 1 f.2).bind fun c => (Im.rdn 4 c.2).bind fun s => some (⟨true, f.1.getD 0 0, f.1.getD 1 0, f.1.getD 2 0, f.1.getD 3 0, c.1, s.1⟩, s.2) by rw [HD.out, R1.out, Option.bind_some]; rfl)
  clear hy0
  go_upto_region 6 with (go_at_call 76; ((with_reducible refine (need_yes _ _).mono ?_); rintro e wn ⟨rfl, rfl⟩))
  obtain ⟨U, hU⟩ : ∃ U, U = w1.setCell ⟨P, o, none⟩ (.bool true) := ⟨_, rfl⟩
  have IU := Lib.hid (show Rd b Bb Bp _ U from hU ▸ I1.out.off (p := ⟨P, o, none⟩) P1.out h3 h1 HB.out (.bool true))
  have KU := Lib.hid (show Rk b Bb P w U from hU ▸ K1.out.put HB.out o (.bool true))
  have PU := Lib.hid (show Box U P t (cs.setIfInBounds o (.bool true)) from hU ▸ P1.out.put o (.bool true))
  rw [← hU]
  have T0 := Im.Patch.one (.bool true) o0
  have u0 := (PU.out.cell o).trans (T0.at 0 (by decide))
  simp only [List.getElem?_cons_zero] at u0
  have hc1 : ∀ k, k < 4 → (cs.setIfInBounds o (.bool true))[o + 1 + k]? = some (.int .i32 0) := fun k hk => (T0.cell (.inr (by show o + 1 ≤ o + 1 + k; omega))).trans (oz k hk)
  have cf := fun X hX1 hX2 hX3 Bq hne hq => Lib.hid (layflight_any P (o + 1) Bq t (cs.setIfInBounds o (.bool true)) r1 b Bb Bp X Y1.out.2.2.2 hbB hbP hX1 hX2 hX3 hc1 h1 h2 h3 hne hq 4)
  have HT0 := Lib.hid T0
  clear hU I1 K1 P1 p1 f1 l1 HPA HKA hc1 T0 oz o0
  go_upto_region 7 with fail
  refine Rx.wp_region_lex (X := fun ch Z => Im.decParts 4 [] r1 = none ∧ Pan (.panicked ch) ∧ Rk b Bb P w Z ∧ ∃ cs', Box Z P t cs' ∧ cs'.size = cs.size) (by kernel_rfl) [] (by kernel_rfl) (· = U.drew) (fun _ => True) (fun _ => True) rfl (fun W hW => ⟨trivial, trivial⟩) ?_ ?_
  · rintro a' ha' ch Z ⟨hn, ⟨ss, hp⟩, hK, cs', hB, hs⟩
    refine ⟨ha', .inr ⟨?_, ⟨ss, hp⟩, hK, cs', hB, hs⟩⟩
    rw [HD1.out, hn, Option.bind_none]
  repeat (first
    | (apply Rx.lex_free rfl rfl; focus (intro _; go_simp; first | done | rfl))
    | (apply Rx.lex_look rfl rfl rfl rfl; focus (intro W hW; clear hW; go_simp; first | done | rfl)))
  refine Rx.lex_make rfl (W' := U.drew.alloc (.cells #[.pointer (some ⟨P, o + 1, none⟩), .pointer (some ⟨P, o + 2, none⟩), .pointer (some ⟨P, o + 3, none⟩), .pointer (some ⟨P, o + 4, none⟩)] 180)) (v := .slice (some ⟨U.drew.heap.size, 0, none⟩) 4 4) ?_ ⟨trivial, trivial⟩ ?_
  focus (go_simp; first | done | rfl)
  refine Rx.lex_call (C' := fun Z => ∃ l r2, Im.decParts 4 [] r1 = some (l, r2) ∧ l.length = 4 ∧ Rd b Bb Bp r2 Z ∧ Rk b Bb P w Z ∧ ∃ cs', Box Z P t cs' ∧ cs'.size = cs.size ∧ Im.Patch cs o ([.bool true] ++ Im.i32s l) cs') (v := .tuple #[]) (f := 153) (args := #[.func (.func 130) #[] #[.pointer (some ⟨Bp, 0, none⟩)], .slice (some ⟨U.drew.heap.size, 0, none⟩) 4 4]) rfl ?_ ?_ ?_ ?_
  · intro Z hZ; clear hZ; go_simp; first | done | rfl | exact ⟨rfl, rfl⟩
  · intro Z hZ
    subst hZ
    have hs0 : b ≤ U.heap.size := Nat.le_trans HW.out KU.out.below.size
    have KA : Rk b Bb P w (U.drew.alloc (.cells #[.pointer (some ⟨P, o + 1, none⟩), .pointer (some ⟨P, o + 2, none⟩), .pointer (some ⟨P, o + 3, none⟩), .pointer (some ⟨P, o + 4, none⟩)] 180)) := KU.out.trans ⟨((one_below' U).mono hs0).trans ((one_below U.drew _).mono hs0), ((Kb.refl U).call (one_below' U)).call (one_below U.drew _)⟩
    have hW := (IU.out.call (one_below' U) hs0).call (one_below U.drew (.cells #[.pointer (some ⟨P, o + 1, none⟩), .pointer (some ⟨P, o + 2, none⟩), .pointer (some ⟨P, o + 3, none⟩), .pointer (some ⟨P, o + 4, none⟩)] 180)) hs0
    refine (cf _ (Nat.le_trans HW.out KA.below.size) hW (PU.out.drew.alloc _) U.drew.heap.size (by have := PU.out.drew.lt; omega) (Box.made _ _ _)).out.mono ?_
    rintro e Z2 (⟨l, r2, hd, rfl, hI2, hK2, cs', hB2, hl, hsz, hp2⟩ | ⟨hd, ⟨ss, rfl⟩, hK2, cs', hB2, hsz⟩)
    · exact .inl ⟨rfl, l, r2, hd, hl, hI2, KA.trans hK2, cs', hB2, by rw [hsz]; simp, HT0.out.trans hp2 rfl⟩
    · exact .inr ⟨_, rfl, hd, ⟨_, rfl⟩, KA.trans hK2, cs', hB2, by rw [hsz]; simp⟩
  · exact fun Z hZ => ⟨trivial, trivial⟩
  refine Rx.lex_end fun W3 hW3 => ?_
  obtain ⟨l, r2, hd3, hl3, hI3, hK3, cs3, hP3, hs3, hp3⟩ := hW3
  obtain ⟨xa, xb, xc, xd, rfl⟩ := four_is hl3
  obtain ⟨l'', _, _, hr2, Y3, _⟩ := Im.decParts_inv _ _ _ _ _ Y1.out.2.2.2 hd3
  have z5 : cs3[o + 5]? = some (.int .i64 0) := (hp3.cell (.inr (Nat.le_refl _))).trans o5
  have T5 := fun v : Int => hp3.trans (Im.Patch.one (.int .i64 v) z5) rfl
  have z6 : ∀ v : Int, (cs3.setIfInBounds (o + 5) (.int .i64 v))[o + 6]? = some (.int .i64 0) := fun v => ((T5 v).cell (.inr (Nat.le_refl _))).trans o6
  have T6 := Lib.hid (fun v u : Int => (T5 v).trans (Im.Patch.one (.int .i64 u) (z6 v)) rfl)
  have c5 := Lib.hid (part_int 1 1 rfl 0 P (o + 5) t cs3 r2 b Bb Bp W3 (by decide) Y3 hbB hbP (Nat.le_trans HW.out hK3.below.size) hI3 hP3 z5 h1 h2 h3)
  have c6 := fun v bs' X hy hX1 hX2 hX3 => Lib.hid (part_int 4 4 rfl 0 P (o + 6) t (cs3.setIfInBounds (o + 5) (.int .i64 v)) bs' b Bb Bp X (by decide) hy hbB hbP hX1 hX2 hX3 (z6 v) h1 h2 h3)
  have p3 := hP3.cell
  have K3 := Lib.hid hK3
  have Y3 := Lib.hid Y3
  have S3 := Lib.hid hs3
  have D3 := Lib.hid hd3
  clear hI3 hK3 hP3 cf IU KU PU u0 o5 o6 hp3 z5 T5 z6 HT0 hr2 hd3 hs3
  go_wp2_with (go_at_call 124; first | ((with_reducible refine (c5.out).mono ?_); rintro e w4 (⟨y4, r4, hr, rfl, hI, hK, hB⟩ | ⟨hn, ⟨ss, rfl⟩, hK, cs2, hB, hs⟩); (all_goals first | (have R4 := Lib.hid hr; have Y4 := Lib.hid (Im.rdn_inv Y3.out hr).2.2.2; have P4 := Lib.hid hB; have I4 := Lib.hid hI; have K4 := Lib.hid (K3.out.trans hK); clear hr hI hK hB c5) | (have N4 := Lib.hid hn; have F4 := Lib.hid (K3.out.trans hK); have G4 := Lib.hid hB; have S4 := Lib.hid hs; clear hn hK hB hs c5))) | ((with_reducible refine ((c6 _ _ _ Y4.out (Nat.le_trans HW.out K4.out.below.size) I4.out P4.out).out).mono ?_); rintro e w5 (⟨y5, r5, hr, rfl, hI, hK, hB⟩ | ⟨hn, ⟨ss, rfl⟩, hK, cs2, hB, hs⟩); (all_goals first | (have R5 := Lib.hid hr; have P5 := Lib.hid hB; have I5 := Lib.hid hI; have K5 := Lib.hid (K4.out.trans hK); clear hr hI hK hB) | (have N5 := Lib.hid hn; have F5 := Lib.hid (K4.out.trans hK); have G5 := Lib.hid hB; have S5 := Lib.hid hs; clear hn hK hB hs))))
  · go_end0
    refine .inl ⟨⟨true, xa, xb, xc, xd, y4, y5⟩, r5, ?_, rfl, I5.out, K5.out, _, P5.out, by simp [S3.out], T6.out y4 y5⟩
    rw [HD1.out, D3.out, Option.bind_some, R4.out, Option.bind_some, R5.out, Option.bind_some]
    rfl
  · refine ⟨rfl, .inr ⟨?_, ⟨_, rfl⟩, F5.out, _, G5.out, by rw [S5.out]; simp [S3.out]⟩⟩
    rw [HD1.out, D3.out, Option.bind_some, R4.out, Option.bind_some, N5.out, Option.bind_none]
  · refine ⟨rfl, .inr ⟨?_, ⟨_, rfl⟩, F4.out, _, G4.out, by rw [S4.out]; simp [S3.out]⟩⟩
    rw [HD1.out, D3.out, Option.bind_some, N4.out, Option.bind_none]
end Go.Proofs.Ytbihnmingedgfaa

/-
The program's image: the shots are read, whatever bytes there are.
-/

namespace Go.Proofs.Ytbihnmingedgfaa
open Go.RowKit Go.Shelf
set_option linter.unusedVariables false
set_option linter.unusedSimpArgs false

/-- What is left where a row of shots is read into cell 58 of block B. -/
def GotRow (b Bb Bp B : Nat) (t : TypeId) (cs : Array Value) (bs : List Int) (w : World) (e : Ending) (w' : World) : Prop :=
  (∃ l rest S, Im.decRow bs = some (l, rest) ∧ e = .returned (.tuple #[]) ∧ Rd b Bb Bp rest w' ∧ Rk b Bb B w w' ∧ Box w' B t (cs.setIfInBounds 58 (.slice (some ⟨S, 0, none⟩) l.length l.length)) ∧ Box w' S 108 (Gm.shotCells l).toArray) ∨
  (Im.decRow bs = none ∧ Pan e ∧ Rk b Bb B w w' ∧ ∃ cs', Box w' B t cs' ∧ cs'.size = cs.size)
theorem shotCells_app (l : List Gm.Shot) (s : Gm.Shot) : Gm.shotCells (l ++ [s]) = Gm.shotCells l ++ s.cells := by
  unfold Gm.shotCells; rw [List.flatMap_append]; simp

set_option maxRecDepth 100000 in
set_option maxHeartbeats 8000000 in
theorem layshots_any (B : Nat) (t : TypeId) (cs : Array Value) (bs : List Int) (b Bb Bp : Nat) (w : World) (hBy : Im.IsBytes bs) (hbB : b ≤ Bb) (hbP : b ≤ B) (hbw : b ≤ w.heap.size) (h : Rd b Bb Bp bs w) (hP : Box w B t cs)
    (ho : cs[58]? = some (.slice none 0 0)) (h1 : t ≠ 54) (h2 : t ≠ 5) (h3 : t ≠ 120) (h4 : t ≠ 108) :
    Calls Try.prog 127 #[.func (.func 130) #[] #[.pointer (some ⟨Bp, 0, none⟩)], .pointer (some ⟨B, 0, none⟩)] w (GotRow b Bb Bp B t cs bs w) := by
  have k0 := hP.cell 58
  rw [ho] at k0
  have ltP := hP.lt
  have HPA := Lib.hid (hP.alloc (.cells #[.int .i64 0] 3))
  have HKA := Lib.hid (Rk.alloc (w := w) (Bb := Bb) (P := B) hbw (.cells #[.int .i64 0] 3))
  have c1 := Lib.hid (part_int 1 1 rfl 0 w.heap.size 0 3 #[.int .i64 0] bs b Bb Bp _ (by decide) hBy hbB hbw (by simp <;> omega) (h.call (one_below w (.cells #[.int .i64 0] 3)) hbw) (Box.made w 3 #[.int .i64 0]) rfl (by decide) (by decide) (by decide))
  obtain ⟨i0, hi0, hz0, hz1, hz2⟩ := info_parts shot_info
  have hZa : ∀ n : Nat, ∃ Z : Array Value, Z = madeCells (Value.agg #[.int .i64 0, .int .i32 0, .int .i32 0, .int .i32 0, .int .i32 0, .int .i64 0]).cells (n * 6) ∧ Z.size = n * 6 ∧ ∀ k j, k < n → j < 6 → Z[k * 6 + j]? = (#[.int .i64 0, .int .i32 0, .int .i32 0, .int .i32 0, .int .i32 0, .int .i64 0] : Array Value)[j]? := fun n => by
    refine ⟨_, rfl, by rw [size_madeCells], fun k j hk hj => ?_⟩
    rw [made_at _ _ _ (by omega)]
    have e : (k * 6 + j) % (Value.agg #[.int .i64 0, .int .i32 0, .int .i32 0, .int .i32 0, .int .i32 0, .int .i64 0]).cells.size = j := by
      show (k * 6 + j) % 6 = j
      omega
    rw [e]
    match j, hj with
    | 0, _ | 1, _ | 2, _ | 3, _ | 4, _ | 5, _ => rfl
  have hmk : ∀ n : Nat, n < 256 → ∀ W : World, (Instr.makeSlice 28 (.int .i64 (n : Int)) (.int .i64 (n : Int))).run Try.prog W = .ok (.slice (some ⟨W.heap.size, 0, none⟩) n n) (W.alloc (.cells (madeCells (Value.agg #[.int .i64 0, .int .i32 0, .int .i32 0, .int .i32 0, .int .i32 0, .int .i64 0]).cells (n * 6)) 108)) := fun n hn W => by
    have := run_make (P := Try.prog) W 28 108 i0 _ Try.underlying28 hi0 hz0 .i64 .i64 n n (by omega) (Int.le_refl _) (by rw [hz2]; omega) (by omega)
    rw [this, hz1, Int.toNat_natCast]
  have hcp : ∀ (n : Nat) (Z : Array Value) (W : World), (Builtin.copy_ #[28, 28] 3 #[.slice (some ⟨W.heap.size, 0, none⟩) n n, .slice none 0 0]).run Try.prog (W.alloc (.cells Z 108)) = .ok (.int .i64 0) (W.alloc (.cells Z 108)) := fun n Z W => by
    have := run_copy_nought (P := Try.prog) (W.alloc (.cells Z 108)) 28 28 3 108 ⟨W.heap.size, 0, none⟩ n n 0 Try.underlying28 (by rw [Option.isSome_map]; rw [hi0]; rfl)
    simpa [goInt] using this
  have HO := Lib.hid ho
  have HB := Lib.hid hbP
  have HW := Lib.hid hbw
  have HY := Lib.hid hBy
  clear h hP ho hBy
  go_enter Try.func127, Try.ntmps127
  go_upto_region 2 with (go_at_call 124; ((with_reducible refine (c1.out).mono ?_); rintro r w1 (⟨m, r1, hr, rfl, hI, hK, hB1⟩ | ⟨hn, ⟨ss, rfl⟩, hK, cs', hB1, hs⟩); (all_goals first | (have R1 := Lib.hid hr; have Y1 := Lib.hid (Im.rdn_inv HY.out hr); have l1 := hB1.cell 0; have P1 := Lib.hid (hK.kb _ _ _ HPA.out (by omega) h1 h2); have I1 := Lib.hid hI; have K1 := Lib.hid (HKA.out.local hK (Nat.le_refl _)); clear hr hI hK hB1 c1 k0) | (have N1 := Lib.hid hn; have F1 := Lib.hid (HKA.out.local hK (Nat.le_refl _)); have G1 := Lib.hid (hK.kb _ _ _ HPA.out (by omega) h1 h2); clear hn hK hB1 hs c1 k0))))
  rotate_left
  · refine ⟨rfl, .inr ⟨?_, ⟨_, rfl⟩, F1.out, _, G1.out, rfl⟩⟩
    unfold Im.decRow
    rw [N1.out, Option.bind_none]
  obtain ⟨n, hmn⟩ : ∃ n : Nat, m = n := ⟨m.toNat, by have := Y1.out.2.1; omega⟩
  subst hmn
  have hn256 : n < 256 := by have := Y1.out.2.2.1; omega
  have HDE := Lib.hid (show Im.decRow bs = Im.decShots n [] r1 by unfold Im.decRow; rw [R1.out, Option.bind_some, Int.toNat_natCast])
  simp only [List.getElem?_toArray, Array.setIfInBounds, List.size_toArray, List.length_cons, List.length_nil, Nat.zero_add, Nat.lt_add_one, dite_true, List.set_toArray, List.set_cons_zero, List.getElem?_cons_zero] at l1
  obtain ⟨Z, hZ, hZs, hZc⟩ := hZa n
  have hmkn := hmk n hn256
  rw [← hZ] at hmkn
  have hcpw := hcp n Z w1
  have p58 : ∀ o, (w1.alloc o).cell? ⟨B, 58, none⟩ = some (.slice none 0 0) := fun o => ((P1.out.alloc o).cell 58).trans HO.out
  have f58 : ∀ o, (w1.alloc o).frozen? ⟨B, 58, none⟩ = false := fun o => (P1.out.alloc o).free 58
  have s1 := Nat.le_trans HW.out K1.out.below.size
  have sz1 := K1.out.below.size
  have HZS := Lib.hid hZs
  have HZC := Lib.hid hZc
  clear hcp HPA HKA hmk hZ hZa hZs hZc
  go_upto_region 5 with fail
  obtain ⟨U, hU⟩ : ∃ U, U = (w1.alloc (.cells Z 108)).setCell ⟨B, 58, none⟩ (.slice (some ⟨w1.heap.size, 0, none⟩) n n) := ⟨_, rfl⟩
  have PU := Lib.hid (show Box U B t (cs.setIfInBounds 58 (.slice (some ⟨w1.heap.size, 0, none⟩) n n)) by (rw [hU]; exact (P1.out.alloc _).put 58 _))
  have SU := Lib.hid (show Box U w1.heap.size 108 Z by (rw [hU]; exact (Box.made w1 _ _).far (by show _ ≠ B; have := P1.out.lt; omega) _))
  have IU := Lib.hid (show Rd b Bb Bp r1 U by (rw [hU]; exact (I1.out.call (one_below w1 _) s1).off (p := ⟨B, 58, none⟩) (P1.out.alloc _) h3 h1 HB.out _))
  have KU := Lib.hid (show Rk b Bb B w U by (rw [hU]; exact (K1.out.trans (Rk.alloc (w := w1) (Bb := Bb) (P := B) s1 _)).put HB.out 58 _))
  have hSB : Hid (w1.heap.size ≠ B) := Lib.hid (by have := P1.out.lt; omega)
  have hSw : Hid (b ≤ w1.heap.size) := Lib.hid s1
  have hSz : Hid (w.heap.size ≤ w1.heap.size) := Lib.hid sz1
  rw [← hU]
  generalize w1.heap.size = S at *
  clear hU I1 K1 P1 p58 f58 hcpw hmkn l1 s1 sz1
  have hbU : b ≤ U.heap.size := Nat.le_trans HW.out KU.out.below.size
  go_wp2
  go_loopw [29] (fun i wr => ∃ (k : Nat) (l : List Gm.Shot) (bs' : List Int), k ≤ n ∧ i = .int .i64 k ∧ l.length = k ∧ Im.IsBytes bs' ∧ Im.decShots n [] r1 = Im.decShots (n - k) l bs' ∧ Rd b Bb Bp bs' wr ∧ Rk b Bb S U wr ∧ ∃ cs', Box wr S 108 cs' ∧ cs'.size = n * 6 ∧ Im.Patch Z 0 (Gm.shotCells l) cs') (fun i _ => n - (intOf i).toNat)
  case atStart => exact ⟨0, [], r1, by omega, rfl, rfl, Y1.out.2.2.2, rfl, IU.out, Rk.refl _ _ _ _, Z, SU.out, HZS.out, Im.Patch.nil _ _⟩
  case round =>
    obtain ⟨k, l, bs', hk, rfl, hlen, hy, hdec, hI, hK, cs', hB, hsz, hpt⟩ := hrel
    by_cases hlt : k < n
    · have hk8 : (k : Int) < n := by omega
      rw [show n - k = (n - (k + 1)) + 1 by omega] at hdec
      have hlen6 : (Gm.shotCells l).length = k * 6 := by rw [Gm.shotCells_len, hlen]
      have zc : ∀ j, j < 6 → cs'[k * 6 + j]? = (#[.int .i64 0, .int .i32 0, .int .i32 0, .int .i32 0, .int .i32 0, .int .i64 0] : Array Value)[j]? := fun j hj => (hpt.cell (.inr (by rw [hlen6]; omega))).trans (HZC.out k j hlt hj)
      have HNX := Lib.hid (show Im.decShots n [] r1 = (Im.decShot bs').bind fun q => Im.decShots (n - (k + 1)) (l ++ [q.1]) q.2 from hdec)
      have HDV := Lib.hid (show Im.decShot bs' = (Im.rdn 1 bs').bind fun o => (Im.decParts 4 [] o.2).bind fun f => (Im.rdn 1 f.2).bind fun t => some (⟨o.1, f.1.getD 0 0, f.1.getD 1 0, f.1.getD 2 0, f.1.getD 3 0, t.1⟩, t.2) from rfl)
      have z0 := zc 0 (by omega)
      have T0 := fun v : Int => hpt.trans (Im.Patch.one (.int .i64 v) z0) (by rw [hlen6]; omega)
      have len0 : ∀ v : Int, (Gm.shotCells l ++ [Value.int .i64 v]).length = k * 6 + 1 := fun v => by rw [List.length_append, hlen6]; rfl
      have zf : ∀ (v : Int) j, j < 4 → (cs'.setIfInBounds (k * 6 + 0) (.int .i64 v))[k * 6 + 1 + j]? = some (.int .i32 0) := fun v j hj => by
        rw [Array.getElem?_setIfInBounds_ne (by omega), Nat.add_assoc, zc (1 + j) (by omega)]
        match j, hj with
        | 0, _ | 1, _ | 2, _ | 3, _ => rfl
      have z5 : ∀ v : Int, (cs'.setIfInBounds (k * 6 + 0) (.int .i64 v))[k * 6 + 5]? = some (.int .i64 0) := fun v => by
        rw [Array.getElem?_setIfInBounds_ne (by omega), zc 5 (by omega)]
        rfl
      have p2 := hB.cell
      have K2 := Lib.hid hK
      have hwy : b ≤ wr.heap.size := Nat.le_trans hbU hK.below.size
      have c3 := Lib.hid (part_int 1 1 rfl 0 S (k * 6) 108 cs' bs' b Bb Bp wr (by decide) hy hbB hSw.out hwy hI hB z0 (by decide) (by decide) (by decide))
      have LT := Lib.hid hB.lt
      have YY := Lib.hid hy
      have HSZ := Lib.hid hsz
      have HLEN := Lib.hid hlen
      have T00 := Lib.hid T0
      have L00 := Lib.hid len0
      have ZF := Lib.hid zf
      have Z5 := Lib.hid z5
      clear hI hK hdec zc hpt z0 hB hy hlen hsz hlen6 T0 len0 zf z5 hwy
      go_upto_region 10 with (go_at_call 124; ((with_reducible refine (c3.out).mono ?_); rintro e w3 (⟨y3, r3, hr, rfl, hI, hK, hB⟩ | ⟨hn, ⟨ss, rfl⟩, hK, cs2, hB, hs⟩); (all_goals first | (have R3 := Lib.hid hr; have Y3 := Lib.hid (Im.rdn_inv YY.out hr).2.2.2; have P3 := Lib.hid hB; have p3 := P3.out.cell; have I3 := Lib.hid hI; have K3 := Lib.hid (K2.out.trans hK); clear hr hI hK hB) | (have N3 := Lib.hid hn; have F3 := Lib.hid (K2.out.trans hK); clear hn hK hB hs))))
      rotate_left
      · refine ⟨rfl, .inr ⟨?_, ⟨_, rfl⟩, KU.out.local F3.out hSz.out, _, F3.out.kb _ _ _ PU.out hSB.out.symm h1 h2, by simp⟩⟩
        rw [HDE.out, HNX.out, HDV.out, N3.out, Option.bind_none, Option.bind_none]
      have zf := ZF.out y3
      have cf := fun X hX1 hX2 (hX3 : Box X S 108 (cs'.setIfInBounds (k * 6) (.int .i64 y3))) Bq hne hq => Lib.hid (layflight_any S (k * 6 + 1) Bq 108 (cs'.setIfInBounds (k * 6) (.int .i64 y3)) r3 b Bb Bp X Y3.out hbB hSw.out hX1 hX2 hX3 zf (by decide) (by decide) (by decide) hne hq 4)
      refine Rx.wp_region_lex (X := fun ch Z' => Im.decParts 4 [] r3 = none ∧ Pan (.panicked ch) ∧ Rk b Bb S U Z') (by kernel_rfl) [] (by kernel_rfl) (· = w3.drew) (fun _ => True) (fun _ => True) rfl (fun W hW => ⟨trivial, trivial⟩) ?_ ?_
      · rintro a' ha' ch Z' ⟨hn, ⟨ss, hp⟩, hK⟩
        refine ⟨ha', .inr ⟨?_, ⟨ss, hp⟩, KU.out.local hK hSz.out, _, hK.kb _ _ _ PU.out hSB.out.symm h1 h2, by simp⟩⟩
        rw [HDE.out, HNX.out, HDV.out, R3.out, Option.bind_some, hn, Option.bind_none, Option.bind_none]
      repeat (first
        | (apply Rx.lex_free rfl rfl; focus (intro _; go_simp; first | done | rfl))
        | (apply Rx.lex_look rfl rfl rfl rfl; focus (intro W hW; clear hW; go_simp; first | done | rfl)))
      refine Rx.lex_make rfl (W' := w3.drew.alloc (.cells #[.pointer (some ⟨S, k * 6 + 1, none⟩), .pointer (some ⟨S, k * 6 + 2, none⟩), .pointer (some ⟨S, k * 6 + 3, none⟩), .pointer (some ⟨S, k * 6 + 4, none⟩)] 180)) (v := .slice (some ⟨w3.drew.heap.size, 0, none⟩) 4 4) ?_ ⟨trivial, trivial⟩ ?_
      focus (go_simp; first | done | rfl)
      refine Rx.lex_call (C' := fun Z' => ∃ fl r4, Im.decParts 4 [] r3 = some (fl, r4) ∧ fl.length = 4 ∧ Rd b Bb Bp r4 Z' ∧ Rk b Bb S U Z' ∧ ∃ cf', Box Z' S 108 cf' ∧ cf'.size = n * 6 ∧ Im.Patch (cs'.setIfInBounds (k * 6) (.int .i64 y3)) (k * 6 + 1) (Im.i32s fl) cf') (v := .tuple #[]) (f := 153) (args := #[.func (.func 130) #[] #[.pointer (some ⟨Bp, 0, none⟩)], .slice (some ⟨w3.drew.heap.size, 0, none⟩) 4 4]) rfl ?_ ?_ ?_ ?_
      · intro Z' hZ'; clear hZ'; go_simp; first | done | rfl | exact ⟨rfl, rfl⟩
      · intro Z' hZ'
        subst hZ'
        have hs0 : b ≤ w3.heap.size := Nat.le_trans hbU K3.out.below.size
        have KA : Rk b Bb S U (w3.drew.alloc (.cells #[.pointer (some ⟨S, k * 6 + 1, none⟩), .pointer (some ⟨S, k * 6 + 2, none⟩), .pointer (some ⟨S, k * 6 + 3, none⟩), .pointer (some ⟨S, k * 6 + 4, none⟩)] 180)) := K3.out.trans ⟨((one_below' w3).mono hs0).trans ((one_below w3.drew _).mono hs0), ((Kb.refl w3).call (one_below' w3)).call (one_below w3.drew _)⟩
        have hW := (I3.out.call (one_below' w3) hs0).call (one_below w3.drew (.cells #[.pointer (some ⟨S, k * 6 + 1, none⟩), .pointer (some ⟨S, k * 6 + 2, none⟩), .pointer (some ⟨S, k * 6 + 3, none⟩), .pointer (some ⟨S, k * 6 + 4, none⟩)] 180)) hs0
        refine (cf _ (Nat.le_trans hbU KA.below.size) hW (P3.out.drew.alloc _) w3.drew.heap.size (by have := P3.out.drew.lt; omega) (Box.made _ _ _)).out.mono ?_
        rintro e Z2 (⟨fl, r4, hd, rfl, hI2, hK2, cf', hB2, hl, hsz, hp2⟩ | ⟨hd, ⟨ss, rfl⟩, hK2, cf', hB2, hsz⟩)
        · exact .inl ⟨rfl, fl, r4, hd, hl, hI2, KA.trans hK2, cf', hB2, by rw [hsz]; simp [HSZ.out], hp2⟩
        · exact .inr ⟨_, rfl, hd, ⟨_, rfl⟩, KA.trans hK2⟩
      · exact fun Z' hZ' => ⟨trivial, trivial⟩
      refine Rx.lex_end fun W4 hW4 => ?_
      obtain ⟨fl, r4, hd4, hl4, hI4, hK4, c4, hP4, hs4, hp4⟩ := hW4
      obtain ⟨_, _, _, _, Y4, _⟩ := Im.decParts_inv _ _ _ _ _ Y3.out hd4
      obtain ⟨xa, xb, xc, xd, rfl⟩ := four_is hl4
      have T4 := (T00.out y3).trans hp4 (by rw [L00.out]; omega)
      have len4 : (Gm.shotCells l ++ [Value.int .i64 y3] ++ Im.i32s [xa, xb, xc, xd]).length = k * 6 + 5 := by rw [List.length_append, L00.out]; rfl
      have z5' : c4[k * 6 + 5]? = some (.int .i64 0) := (hp4.cell (.inr (Nat.le_refl _))).trans (Z5.out y3)
      have T5 := fun v : Int => T4.trans (Im.Patch.one (.int .i64 v) z5') (by rw [len4]; omega)
      have HT5 := Lib.hid (fun v : Int => show Im.Patch Z 0 (Gm.shotCells (l ++ [⟨y3, xa, xb, xc, xd, v⟩])) (c4.setIfInBounds (k * 6 + 5) (.int .i64 v)) by
        have e := T5 v
        rw [shotCells_app]
        have e2 : Gm.shotCells l ++ [Value.int .i64 y3] ++ Im.i32s [xa, xb, xc, xd] ++ [Value.int .i64 v] = Gm.shotCells l ++ Gm.Shot.cells ⟨y3, xa, xb, xc, xd, v⟩ := by
          simp [Im.i32s, Gm.Shot.cells]
        rw [e2] at e
        exact e)
      have c5 := Lib.hid (part_int 1 1 rfl 0 S (k * 6 + 5) 108 c4 r4 b Bb Bp W4 (by decide) Y4 hbB hSw.out (Nat.le_trans hbU hK4.below.size) hI4 hP4 z5' (by decide) (by decide) (by decide))
      have p4 := hP4.cell
      have K4 := Lib.hid hK4
      have YY4 := Lib.hid Y4
      have D4 := Lib.hid hd4
      have S4 := Lib.hid hs4
      clear hI4 hK4 hP4 cf zf z5' T4 T5 len4 hp4 p3 p2 c3 hd4 hs4
      go_wp2_with (go_at_call 124; ((with_reducible refine (c5.out).mono ?_); rintro e w5 (⟨y5, r5, hr, rfl, hI, hK, hB⟩ | ⟨hn, ⟨ss, rfl⟩, hK, cs2, hB, hs⟩); (all_goals first | (have R5 := Lib.hid hr; have P5 := Lib.hid hB; have I5 := Lib.hid hI; have K5 := Lib.hid (K4.out.trans hK); clear hr hI hK hB) | (have N5 := Lib.hid hn; have F5 := Lib.hid (K4.out.trans hK); clear hn hK hB hs))))
      · go_roundw
        case rel =>
          refine ⟨k + 1, l ++ [⟨y3, xa, xb, xc, xd, y5⟩], r5, by omega, by go_num, by rw [List.length_append, HLEN.out]; rfl, (Im.rdn_inv YY4.out R5.out).2.2.2, ?_, I5.out, K5.out, _, P5.out, by simp [S4.out], HT5.out y5⟩
          rw [HNX.out, HDV.out, R3.out, Option.bind_some, D4.out, Option.bind_some, R5.out, Option.bind_some, Option.bind_some]
          rfl
        case measure => simp [intOf]; omega
      · refine ⟨rfl, .inr ⟨?_, ⟨_, rfl⟩, KU.out.local F5.out hSz.out, _, F5.out.kb _ _ _ PU.out hSB.out.symm h1 h2, by simp⟩⟩
        rw [HDE.out, HNX.out, HDV.out, R3.out, Option.bind_some, D4.out, Option.bind_some, N5.out, Option.bind_none, Option.bind_none]
    · have hk8 : ¬ (k : Int) < n := by omega
      obtain rfl : k = n := by omega
      rw [Nat.sub_self] at hdec
      have hcs := patch_all hpt (by rw [HZS.out, Gm.shotCells_len, hlen])
      rw [hcs] at hB
      have HI := Lib.hid hI
      have HK := Lib.hid hK
      have HBX := Lib.hid hB
      have HDX := Lib.hid hdec
      have HL := Lib.hid hlen
      clear hI hK hB hdec hlen hpt hcs
      go_wp2
      go_end0
      refine .inl ⟨l, bs', S, by rw [HDE.out, HDX.out]; rfl, rfl, HI.out, KU.out.local HK.out hSz.out, ?_, HBX.out⟩
      rw [HL.out]
      exact HK.out.kb _ _ _ PU.out hSB.out.symm h1 h2
end Go.Proofs.Ytbihnmingedgfaa

/-
The program's image: a whole state is read, whatever bytes there are.
-/

namespace Go.Proofs.Ytbihnmingedgfaa
open Go.RowKit Go.Shelf
set_option linter.unusedVariables false
set_option linter.unusedSimpArgs false

theorem patch_unique {cs a b : Array Value} {o : Nat} {l : List Value} (h : Im.Patch cs o l a) (k : Im.Patch cs o l b) : a = b := Array.ext_getElem? fun j => (h j).trans (k j).symm
theorem Im.patch_ship (g : Gm.G) (s : Value) (r : Ros.R) (k : Nat) (hk : k < 8) (t : Gm.Ship) : Im.Patch (Im.cells g s r) (2 + k * 7) t.cells (Im.cells { g with ship := Gm.upd g.ship k t } s r) := by
  have e : ∀ (cs : Array Value) (i : Nat) (v : Value), i < 59 → cs.size = 59 → (cs ++ Ros.cells r).setIfInBounds i v = cs.setIfInBounds i v ++ Ros.cells r := fun cs i v hi hc => by rw [Array.setIfInBounds_append, if_pos (by omega)]
  have c := fun j hj => Im.cells_ship g s r k j hk hj
  have c0 := c 0 (by omega)
  have c1 := c 1 (by omega)
  have c2 := c 2 (by omega)
  have c3 := c 3 (by omega)
  have c4 := c 4 (by omega)
  have c5 := c 5 (by omega)
  have c6 := c 6 (by omega)
  simp only [Gm.Ship.cells, List.getElem?_cons_zero, List.getElem?_cons_succ, Nat.add_zero] at c0 c1 c2 c3 c4 c5 c6
  have T0 := Im.Patch.one (.bool t.on) c0
  have T1 := T0.trans (Im.Patch.one (o := 2 + k * 7 + 1) (.int .i32 t.x) ((T0.cell (.inr (Nat.le_refl _))).trans c1)) rfl
  have T2 := T1.trans (Im.Patch.one (o := 2 + k * 7 + 2) (.int .i32 t.y) ((T1.cell (.inr (Nat.le_refl _))).trans c2)) rfl
  have T3 := T2.trans (Im.Patch.one (o := 2 + k * 7 + 3) (.int .i32 t.vx) ((T2.cell (.inr (Nat.le_refl _))).trans c3)) rfl
  have T4 := T3.trans (Im.Patch.one (o := 2 + k * 7 + 4) (.int .i32 t.vy) ((T3.cell (.inr (Nat.le_refl _))).trans c4)) rfl
  have T5 := T4.trans (Im.Patch.one (o := 2 + k * 7 + 5) (.int .i64 t.cool) ((T4.cell (.inr (Nat.le_refl _))).trans c5)) rfl
  have T6 := T5.trans (Im.Patch.one (o := 2 + k * 7 + 6) (.int .i64 t.score) ((T5.cell (.inr (Nat.le_refl _))).trans c6)) rfl
  unfold Im.cells at T6 ⊢
  rw [e _ _ _ (by omega) (by simp [Gm.cells_size]), e _ _ _ (by omega) (by simp [Gm.cells_size]), e _ _ _ (by omega) (by simp [Gm.cells_size]), e _ _ _ (by omega) (by simp [Gm.cells_size]), e _ _ _ (by omega) (by simp [Gm.cells_size]), e _ _ _ (by omega) (by simp [Gm.cells_size]), e _ _ _ (by omega) (by simp [Gm.cells_size]), set7 g s k hk t] at T6
  exact T6
theorem Im.cells_seat' (g : Gm.G) (s : Value) (q : Ros.R) (k : Nat) (hk : k < 8) (p n : Int) : ((Im.cells g s q).setIfInBounds (60 + k * 2) (.int .i64 p)).setIfInBounds (60 + k * 2 + 1) (.int .i64 n) = Im.cells g s (Im.setSeat q k p n) := by
  rw [show 60 + k * 2 = 59 + (1 + k * 2) by omega, Im.cells_set_r, Ros.cells_setp _ k hk]
  rw [show 59 + (1 + k * 2) + 1 = 59 + (1 + k * 2 + 1) by omega]
  have := Im.cells_set_r g s { q with peer := Ros.upd q.peer k p } (1 + k * 2 + 1) (.int .i64 n)
  unfold Im.cells at this ⊢
  rw [this, Ros.cells_setg _ k hk]
  rfl
def GotIm (b Bb Bp B : Nat) (bs : List Int) (w : World) (e : Ending) (w' : World) : Prop :=
  (∃ g r rest S, Im.dec bs = some ((g, r), rest) ∧ e = .returned (.tuple #[]) ∧ Rd b Bb Bp rest w' ∧ Rk b Bb B w w' ∧ Box w' B 53 (Im.cells g (.slice (some ⟨S, 0, none⟩) g.shots.length g.shots.length) r) ∧ Box w' S 108 (Gm.shotCells g.shots).toArray) ∨
  (Im.dec bs = none ∧ Pan e ∧ Rk b Bb B w w' ∧ ∃ cs', Box w' B 53 cs' ∧ cs'.size = 76)

set_option maxRecDepth 100000 in
set_option maxHeartbeats 8000000 in
theorem laystate_any (Z : Array Value) (hZ : Z = Im.cells Im.G0 (.slice none 0 0) Im.R0) (B : Nat) (bs : List Int) (b Bb Bp : Nat) (w : World) (hBy : Im.IsBytes bs) (hbB : b ≤ Bb) (hbP : b ≤ B) (hbw : b ≤ w.heap.size) (h : Rd b Bb Bp bs w) (hP : Box w B 53 Z) :
    Calls Try.prog 78 #[.func (.func 130) #[] #[.pointer (some ⟨Bp, 0, none⟩)], .pointer (some ⟨B, 0, none⟩)] w (GotIm b Bb Bp B bs w) := by
  have zs : Z.size = 76 := by rw [hZ]; exact Im.cells_size _ _ _
  have z0 : Z[0]? = some (.int .i64 0) := by rw [hZ]; exact (Im.cells_g _ _ _ 0 (by omega)).trans (Gm.cells_0 _ _)
  have z1 : ∀ v, (Z.setIfInBounds 0 v)[1]? = some (.int .u64 0) := fun v => by rw [Array.getElem?_setIfInBounds_ne (by omega), hZ]; exact (Im.cells_g _ _ _ 1 (by omega)).trans (Gm.cells_1 _ _)
  have z2 : ∀ f d : Int, (Z.setIfInBounds 0 (.int .i64 f)).setIfInBounds 1 (.int .u64 d) = Im.cells ⟨f, d, Im.ships0, []⟩ (.slice none 0 0) Im.R0 := fun f d => by rw [hZ, Im.cells_frame, Im.cells_dice]; rfl
  have c1 := Lib.hid (part_int 4 4 rfl 0 B 0 53 Z bs b Bb Bp w (by decide) hBy hbB hbP hbw h hP z0 (by decide) (by decide) (by decide))
  have c2 := fun v bs' X hy hX1 hX2 hX3 => Lib.hid (part_u64 8 8 rfl 0 B 1 53 (Z.setIfInBounds 0 v) bs' b Bb Bp X (by decide) hy hbB hbP hX1 hX2 hX3 (z1 v) (by decide) (by decide) (by decide))
  have HW := Lib.hid hbw
  have HY := Lib.hid hBy
  have HZ2 := Lib.hid z2
  have HZS := Lib.hid zs
  have ltP := hP.lt
  have HD := Lib.hid (show Im.dec bs = (Im.rdn 4 bs).bind fun f => (Im.rdn 8 f.2).bind fun d => (Im.decShips 0 8 Im.ships0 d.2).bind fun s => (Im.decRow s.2).bind fun l => (Im.rdn 4 l.2).bind fun v => (Im.decSeats 0 8 { Im.R0 with version := v.1 } v.2).bind fun r => some ((⟨f.1, d.1, s.1, l.1⟩, r.1), r.2) from rfl)
  clear h hP hbw hBy hZ z0 z1 z2 zs
  go_enter Try.func78, Try.ntmps78
  go_upto_region 2 with (first | (go_at_call 124; ((with_reducible refine (c1.out).mono ?_); rintro e w1 (⟨f, r1, hr, rfl, hI, hK, hB⟩ | ⟨hn, ⟨ss, rfl⟩, hK, cs2, hB, hs⟩); (all_goals first | (have R1 := Lib.hid hr; have Y1 := Lib.hid (Im.rdn_inv HY.out hr).2.2.2; have P1 := Lib.hid hB; have I1 := Lib.hid hI; have K1 := Lib.hid hK; clear hr hI hK hB c1) | (have N1 := Lib.hid hn; have F1 := Lib.hid hK; have G1 := Lib.hid hB; have S1 := Lib.hid hs; clear hn hK hB hs c1)))) | (go_at_call 125; ((with_reducible refine ((c2 _ _ _ Y1.out (Nat.le_trans HW.out K1.out.below.size) I1.out P1.out).out).mono ?_); rintro e w2 (⟨d, r2, hr, rfl, hI, hK, hB⟩ | ⟨hn, ⟨ss, rfl⟩, hK, cs2, hB, hs⟩); (all_goals first | (have R2 := Lib.hid hr; have Y2 := Lib.hid (Im.rdn_inv Y1.out hr).2.2.2; (have e2 := HZ2.out f d); have P2 := Lib.hid (e2 ▸ hB : Box w2 B 53 (Im.cells ⟨f, d, Im.ships0, []⟩ (.slice none 0 0) Im.R0)); clear e2; have I2 := Lib.hid hI; have K2 := Lib.hid (K1.out.trans hK); clear hr hI hK hB c2) | (have N2 := Lib.hid hn; have F2 := Lib.hid (K1.out.trans hK); have G2 := Lib.hid hB; have S2 := Lib.hid hs; clear hn hK hB hs c2)))))
  rotate_left
  iterate 2
    · first
        | (refine ⟨rfl, .inr ⟨?_, ⟨_, rfl⟩, F2.out, _, G2.out, by rw [S2.out]; simp [HZS.out]⟩⟩
           rw [HD.out, R1.out, Option.bind_some, N2.out, Option.bind_none])
        | (refine ⟨rfl, .inr ⟨?_, ⟨_, rfl⟩, F1.out, _, G1.out, by rw [S1.out]; simp [HZS.out]⟩⟩
           rw [HD.out, N1.out, Option.bind_none])
  have HD2 := Lib.hid (show Im.dec bs = (Im.decShips 0 8 Im.ships0 r2).bind fun s => (Im.decRow s.2).bind fun l => (Im.rdn 4 l.2).bind fun v => (Im.decSeats 0 8 { Im.R0 with version := v.1 } v.2).bind fun r => some ((⟨f, d, s.1, l.1⟩, r.1), r.2) by rw [HD.out, R1.out, Option.bind_some, R2.out, Option.bind_some])
  skip
  go_wp2
  go_loopw [18] (fun i wr => ∃ (k : Nat) (s : Nat → Gm.Ship) (bs' : List Int), k ≤ 8 ∧ i = .int .i64 k ∧ Im.IsBytes bs' ∧ Im.decShips 0 8 Im.ships0 r2 = Im.decShips k (8 - k) s bs' ∧ (∀ j, k ≤ j → s j = Gm.Ship.none) ∧ Rd b Bb Bp bs' wr ∧ Rk b Bb B w wr ∧ Box wr B 53 (Im.cells ⟨f, d, s, []⟩ (.slice none 0 0) Im.R0)) (fun i _ => 8 - (intOf i).toNat)
  case atStart => exact ⟨0, Im.ships0, r2, by omega, rfl, Y2.out, rfl, fun _ _ => rfl, I2.out, K2.out, P2.out⟩
  case round =>
    obtain ⟨k, s, bs', hk, rfl, hy, hdec, hz, hI, hK, hB⟩ := hrel
    clear I1 P1 K1 I2 P2 K2
    by_cases hlt : k < 8
    · have hk8 : (k : Int) < 8 := by omega
      rw [show 8 - k = (8 - (k + 1)) + 1 by omega] at hdec
      have hsk := hz k (Nat.le_refl _)
      have hcell := fun j hj => Im.cells_ship ⟨f, d, s, []⟩ (.slice none 0 0) Im.R0 k j hlt hj
      have hp := fun t => Lib.hid (Im.patch_ship ⟨f, d, s, []⟩ (.slice none 0 0) Im.R0 k hlt t)
      have hsize := Im.cells_size ⟨f, d, s, []⟩ (.slice none 0 0) Im.R0
      rw [show Gm.G.ship ⟨f, d, s, []⟩ k = Gm.Ship.none from hsk] at hcell
      have HN := Lib.hid (show Im.decShips 0 8 Im.ships0 r2 = (Im.decShip bs').bind fun q => Im.decShips (k + 1) (8 - (k + 1)) (Gm.upd s k q.1) q.2 from hdec)
      obtain ⟨C, hC⟩ : ∃ C, C = Im.cells ⟨f, d, s, []⟩ (.slice none 0 0) Im.R0 := ⟨_, rfl⟩
      rw [← hC] at hB hcell hsize
      simp only [← hC] at hp
      have c3 := Lib.hid (layship_any B (2 + k * 7) 53 C bs' b Bb Bp wr hy hbB hbP (Nat.le_trans HW.out hK.below.size) hI hB (hcell 0 (by omega)) (fun j hj => by
        have := hcell (1 + j) (by omega)
        rw [← Nat.add_assoc] at this
        rw [this]
        match j, hj with
        | 0, _ | 1, _ | 2, _ | 3, _ => rfl) (hcell 5 (by omega)) (hcell 6 (by omega)) (by decide) (by decide) (by decide))
      have HK := Lib.hid hK
      have YY := Lib.hid hy
      have HZN := Lib.hid hz
      have HSZ := Lib.hid hsize
      clear hI hK hB hcell hdec hy hz hsk hC hsize
      go_wp2_with (go_at_call 126; ((with_reducible refine (c3.out).mono ?_); rintro e w4 (⟨v, r4, hr, rfl, hI, hK, cs', hB, hsz, hpt⟩ | ⟨hn, ⟨ss, rfl⟩, hK, cs', hB, hs⟩); (all_goals first | (have R4 := Lib.hid hr; have I4 := Lib.hid hI; have K4 := Lib.hid (HK.out.trans hK); rw [patch_unique hpt (hp v).out] at hB; have P4 := Lib.hid hB; clear hr hI hK hB hsz hpt) | (have N4 := Lib.hid hn; have F4 := Lib.hid (HK.out.trans hK); have G4 := Lib.hid hB; have S4 := Lib.hid hs; clear hn hK hB hs))))
      · go_roundw
        case rel => exact ⟨k + 1, Gm.upd s k v, r4, by omega, by go_num, (Im.decShip_inv YY.out R4.out).2.1, by rw [HN.out, R4.out, Option.bind_some], fun j hj => by rw [Gm.upd_other _ _ (by omega)]; exact HZN.out j (by omega), I4.out, K4.out, P4.out⟩
        case measure => simp [intOf]; omega
      · refine ⟨rfl, .inr ⟨?_, ⟨_, rfl⟩, F4.out, _, G4.out, by rw [S4.out, HSZ.out]⟩⟩
        rw [HD2.out, HN.out, N4.out, Option.bind_none, Option.bind_none]
    · have hk8 : ¬ (k : Int) < 8 := by omega
      obtain rfl : k = 8 := by omega
      have HD3 := Lib.hid (show Im.dec bs = (Im.decRow bs').bind fun l => (Im.rdn 4 l.2).bind fun v => (Im.decSeats 0 8 { Im.R0 with version := v.1 } v.2).bind fun r => some ((⟨f, d, s, l.1⟩, r.1), r.2) by rw [HD2.out, hdec]; rfl)
      have c5 := Lib.hid (layshots_any B 53 _ bs' b Bb Bp wr hy hbB hbP (Nat.le_trans HW.out hK.below.size) hI hB ((Im.cells_g _ _ _ 58 (by omega)).trans (Gm.cells_58 _ _)) (by decide) (by decide) (by decide) (by decide))
      have hset := fun l : List Gm.Shot => fun S => Lib.hid (show (Im.cells ⟨f, d, s, []⟩ (.slice none 0 0) Im.R0).setIfInBounds 58 (.slice (some ⟨S, 0, none⟩) l.length l.length) = Im.cells ⟨f, d, s, l⟩ (.slice (some ⟨S, 0, none⟩) l.length l.length) Im.R0 by rw [Im.cells_shots']; rfl)
      have hsize := Lib.hid (Im.cells_size ⟨f, d, s, []⟩ (.slice none 0 0) Im.R0)
      have HK := Lib.hid hK
      have YY := Lib.hid hy
      clear hI hK hB hdec hy hz
      go_upto_region 8 with (go_at_call 127; ((with_reducible refine (c5.out).mono ?_); rintro e w6 (⟨l, r6, S, hr, rfl, hI, hK, hB, hS⟩ | ⟨hn, ⟨ss, rfl⟩, hK, cs', hB, hs⟩); (all_goals first | (have R6 := Lib.hid hr; rw [(hset l S).out] at hB; have I6 := Lib.hid hI; have P6 := Lib.hid hB; have S6 := Lib.hid hS; have K6 := Lib.hid (HK.out.trans hK); clear hr hI hK hB hS) | (have N6 := Lib.hid hn; have F6 := Lib.hid (HK.out.trans hK); have G6 := Lib.hid hB; have Z6 := Lib.hid hs; clear hn hK hB hs))))
      rotate_left
      · refine ⟨rfl, .inr ⟨?_, ⟨_, rfl⟩, F6.out, _, G6.out, by rw [Z6.out, hsize.out]⟩⟩
        rw [HD3.out, N6.out, Option.bind_none]
      have hY6 : Hid (Im.IsBytes r6) := Lib.hid (by
        have hr := R6.out
        unfold Im.decRow at hr
        obtain ⟨⟨n, b4⟩, h5, he⟩ := Option.bind_eq_some_iff.1 hr
        obtain ⟨_, _, _, _, h6, _⟩ := Im.decShots_inv _ _ _ _ _ (Im.rdn_inv YY.out h5).2.2.2 he
        exact h6)
      have HD4 := Lib.hid (show Im.dec bs = (Im.rdn 4 r6).bind fun v => (Im.decSeats 0 8 { Im.R0 with version := v.1 } v.2).bind fun r => some ((⟨f, d, s, l⟩, r.1), r.2) by rw [HD3.out, R6.out, Option.bind_some])
      have hne6 : Hid (S ≠ B) := Lib.hid (Box.apart S6.out P6.out (by decide))
      obtain ⟨g, hg⟩ : ∃ g : Gm.G, g = ⟨f, d, s, l⟩ := ⟨_, rfl⟩
      have HL := Lib.hid (show g.shots = l by rw [hg])
      rw [← hg] at P6 HD4
      have e59 : ∀ sl, (Im.cells g sl Im.R0)[59]? = some (.int .i64 0) := fun sl => (Im.cells_r _ _ _ 0).trans (Ros.cells_0 _)
      have c7 := Lib.hid (part_int 4 4 rfl 0 B 59 53 _ r6 b Bb Bp w6 (by decide) hY6.out hbB hbP (Nat.le_trans HW.out K6.out.below.size) I6.out P6.out (e59 _) (by decide) (by decide) (by decide))
      have hsv := fun sl v => Lib.hid (Im.cells_version g sl Im.R0 v)
      have hsz2 := fun sl r => Lib.hid (Im.cells_size g sl r)
      clear e59 c5 hset hg HD HD2 HD3
      go_upto_region 9 with (go_at_call 124; ((with_reducible refine (c7.out).mono ?_); rintro e w7 (⟨v, r7, hr, rfl, hI, hK, hB⟩ | ⟨hn, ⟨ss, rfl⟩, hK, cs2, hB, hs⟩); (all_goals first | (have R7 := Lib.hid hr; have Y7 := Lib.hid (Im.rdn_inv hY6.out hr).2.2.2; have P7 := Lib.hid ((hsv _ v).out ▸ hB : Box w7 B 53 (Im.cells g (.slice (some ⟨S, 0, none⟩) l.length l.length) { Im.R0 with version := v })); have I7 := Lib.hid hI; have K7 := Lib.hid (K6.out.trans hK); have S7 := Lib.hid (hK.kb _ _ _ S6.out hne6.out (by decide) (by decide)); clear hr hI hK hB) | (have N7 := Lib.hid hn; have F7 := Lib.hid (K6.out.trans hK); have G7 := Lib.hid hB; have Z7 := Lib.hid hs; clear hn hK hB hs))))
      rotate_left
      · refine ⟨rfl, .inr ⟨?_, ⟨_, rfl⟩, F7.out, _, G7.out, by rw [Z7.out, (hsz2 _ _).out]⟩⟩
        rw [HD4.out, N7.out, Option.bind_none]
      have HD5 := Lib.hid (show Im.dec bs = (Im.decSeats 0 8 { Im.R0 with version := v } r7).bind fun r => some ((g, r.1), r.2) by rw [HD4.out, R7.out, Option.bind_some])
      clear c7
      go_wp2
      go_loopw [41] (fun i wx => ∃ (k : Nat) (q : Ros.R) (bs' : List Int), k ≤ 8 ∧ i = .int .i64 k ∧ Im.IsBytes bs' ∧ Im.decSeats 0 8 { Im.R0 with version := v } r7 = Im.decSeats k (8 - k) q bs' ∧ (∀ j, k ≤ j → q.peer j = 0 ∧ q.gen j = 0) ∧ Rd b Bb Bp bs' wx ∧ Rk b Bb B w wx ∧ Box wx B 53 (Im.cells g (.slice (some ⟨S, 0, none⟩) l.length l.length) q) ∧ Box wx S 108 (Gm.shotCells l).toArray) (fun i _ => 8 - (intOf i).toNat)
      case atStart => exact ⟨0, { Im.R0 with version := v }, r7, by omega, rfl, Y7.out, rfl, fun _ _ => ⟨rfl, rfl⟩, I7.out, K7.out, P7.out, S7.out⟩
      case round =>
        obtain ⟨k, q, bs', hk, rfl, hy, hdec, hz, hI, hK, hB, hS⟩ := hrel
        clear I7 P7 K7 S7 I6 P6 K6 S6
        by_cases hlt : k < 8
        · have hk8 : (k : Int) < 8 := by omega
          rw [show 8 - k = (8 - (k + 1)) + 1 by omega] at hdec
          have hzk := hz k (Nat.le_refl _)
          have ep : ∀ sl, (Im.cells g sl q)[60 + k * 2]? = some (.int .i64 0) := fun sl => by rw [Im.cells_peer _ _ _ k hlt, hzk.1]
          have eg : ∀ sl, (Im.cells g sl q)[60 + k * 2 + 1]? = some (.int .i64 0) := fun sl => by rw [Im.cells_gen _ _ _ k hlt, hzk.2]
          have c8 := Lib.hid (layseat_any B (60 + k * 2) 53 _ bs' b Bb Bp wr hy hbB hbP (Nat.le_trans HW.out hK.below.size) hI hB (ep _) (eg _) (by decide) (by decide) (by decide))
          have hset := fun sl p n => Lib.hid (Im.cells_seat' g sl q k hlt p n)
          have HN := Lib.hid (show Im.decSeats 0 8 { Im.R0 with version := v } r7 = (Im.decSeat bs').bind fun x => Im.decSeats (k + 1) (8 - (k + 1)) (Im.setSeat q k x.1.1 x.1.2) x.2 from hdec)
          have HK := Lib.hid hK
          have YY := Lib.hid hy
          have HZN := Lib.hid hz
          have HS := Lib.hid hS
          clear hI hK hB ep eg hdec hy hz hzk hS
          go_wp2_with (go_at_call 128; ((with_reducible refine (c8.out).mono ?_); rintro e w9 (⟨⟨p, n⟩, r9, hr, rfl, hI, hK, hB⟩ | ⟨hn, ⟨ss, rfl⟩, hK, cs2, hB, hs⟩); (all_goals first | (have R9 := Lib.hid hr; have I9 := Lib.hid hI; have K9 := Lib.hid (HK.out.trans hK); have P9 := Lib.hid ((hset _ p n).out ▸ hB : Box w9 B 53 (Im.cells g (.slice (some ⟨S, 0, none⟩) l.length l.length) (Im.setSeat q k p n))); have S9 := Lib.hid (hK.kb _ _ _ HS.out hne6.out (by decide) (by decide)); clear hr hI hK hB) | (have N9 := Lib.hid hn; have F9 := Lib.hid (HK.out.trans hK); have G9 := Lib.hid hB; have Z9 := Lib.hid hs; clear hn hK hB hs))))
          · go_roundw
            case rel => exact ⟨k + 1, Im.setSeat q k p n, r9, by omega, by go_num, (Im.decSeat_inv YY.out R9.out).2, by rw [HN.out, R9.out, Option.bind_some], fun j hj => by
              have e3 : (Im.setSeat q k p n).peer j = q.peer j := Ros.upd_other _ _ (by omega)
              have e4 : (Im.setSeat q k p n).gen j = q.gen j := Ros.upd_other _ _ (by omega)
              rw [e3, e4]
              exact HZN.out j (by omega), I9.out, K9.out, P9.out, S9.out⟩
            case measure => simp [intOf]; omega
          · refine ⟨rfl, .inr ⟨?_, ⟨_, rfl⟩, F9.out, _, G9.out, by rw [Z9.out, (hsz2 _ _).out]⟩⟩
            rw [HD5.out, HN.out, N9.out, Option.bind_none, Option.bind_none]
        · have hk8 : ¬ (k : Int) < 8 := by omega
          obtain rfl : k = 8 := by omega
          have HI := Lib.hid hI
          have HK := Lib.hid hK
          have HBB := Lib.hid hB
          have HS := Lib.hid hS
          have HE := Lib.hid (show Im.dec bs = some ((g, q), bs') by rw [HD5.out, hdec]; rfl)
          clear hI hK hB hdec hS
          go_wp2
          go_end0
          exact .inl ⟨g, q, bs', S, HE.out, rfl, HI.out, HK.out, by rw [HL.out]; exact HBB.out, by rw [HL.out]; exact HS.out⟩
end Go.Proofs.Ytbihnmingedgfaa

/-
The program's image: Get of whatever bytes.
-/


namespace Go.Proofs.Ytbihnmingedgfaa
open Go.RowKit Go.Shelf
set_option linter.unusedVariables false
set_option linter.unusedSimpArgs false

theorem Im.get_no {bs : List Int} (h : Im.dec bs = none) : Im.get bs = none := by unfold Im.get; rw [h]; rfl
theorem Im.get_left {bs rest : List Int} {g : Gm.G} {q : Ros.R} (h : Im.dec bs = some ((g, q), rest)) (hn : ¬ (rest = [] ∧ Im.Ok g q)) : Im.get bs = none := by unfold Im.get; rw [h, Option.bind_some, if_neg hn]
theorem Im.get_all {bs rest : List Int} {g : Gm.G} {q : Ros.R} (h : Im.dec bs = some ((g, q), rest)) (hn : rest = [] ∧ Im.Ok g q) : Im.get bs = some (g, q) := by unfold Im.get; rw [h, Option.bind_some, if_pos hn]
theorem lies_boxed {W : World} {S n size : Nat} {t : TypeId} {xs : List Value} (h : Box W S t xs.toArray) (hl : xs.length = n * size) : Lies W W.heap.size size (some ⟨S, 0, none⟩) n xs :=
  ⟨hl, fun _ => ⟨_, rfl, h.lt⟩, fun ad e _ j u hj => by
    injection e with e
    subst e
    have hadd : (⟨S, 0, none⟩ : Addr).add j = ⟨S, j, none⟩ := by unfold Addr.add; split <;> simp_all
    rw [hadd, h.cell j, ← hj]
    simp⟩

/-- What Get says of bytes. -/
def SaysIm (bs : List Int) (w : World) (r : Ending) (w' : World) : Prop :=
  (∃ g q S, Im.get bs = some (g, q) ∧ r = .returned (.tuple #[.agg (Im.cells g (.slice (some ⟨S, 0, none⟩) g.shots.length g.shots.length) q), .int .i64 0]) ∧ Box w' S 108 (Gm.shotCells g.shots).toArray ∧ Below w.heap.size w w') ∨
  (Im.get bs = none ∧ r = .returned (.tuple #[.agg Im.zero, .int .i64 2]) ∧ Below w.heap.size w w')

set_option maxRecDepth 100000 in
set_option maxHeartbeats 4000000 in
theorem imget_any (bs : List Int) (A : Option Addr) (n c : Nat) (w : World) (hn : n = bs.length) (hc : n ≤ c) (hBy : Im.IsBytes bs) (hL : Lies w w.heap.size 1 A n (Im.u8s bs)) :
    Calls Try.prog 32 #[.slice A n c] w (SaysIm bs w) := by
  have hmf : ∀ (fn : Fn) (first cap : Array Value) (w : World), (Instr.makeFunc fn first cap).run Try.prog w = .ok (.func fn first cap) w := fun _ _ _ _ => rfl
  have V1 := Lib.hid (((Box.made w 54 #[.slice A n c]).alloc (.cells Im.zero 53)).alloc (.cells #[.int .i64 0] 3))
  have B1 := Lib.hid ((Box.made_at (n := w.heap.size + 1) (w.alloc (.cells #[.slice A n c] 54)) 53 Im.zero (by simp)).alloc (.cells #[.int .i64 0] 3))
  have C1 := Lib.hid (Box.made_at (n := w.heap.size + 1 + 1) ((w.alloc (.cells #[.slice A n c] 54)).alloc (.cells Im.zero 53)) 3 #[.int .i64 0] (by simp))
  have K1 := Lib.hid ((((Below.refl w.heap.size w).alloc (Nat.le_refl _) (.cells #[.slice A n c] 54)).alloc (by simp) (.cells Im.zero 53)).alloc (by simp <;> omega) (.cells #[.int .i64 0] 3))
  have B2 := Lib.hid (B1.out.alloc (.cells #[.pointer (some ⟨w.heap.size, 0, none⟩)] 120))
  have C2 := Lib.hid (C1.out.alloc (.cells #[.pointer (some ⟨w.heap.size, 0, none⟩)] 120))
  have V2 := Lib.hid (V1.out.alloc (.cells #[.pointer (some ⟨w.heap.size, 0, none⟩)] 120))
  have K2 := Lib.hid (K1.out.alloc K1.out.size (.cells #[.pointer (some ⟨w.heap.size, 0, none⟩)] 120))
  have P2 := Box.made_at (n := w.heap.size + 1 + 1 + 1) (((w.alloc (.cells #[.slice A n c] 54)).alloc (.cells Im.zero 53)).alloc (.cells #[.int .i64 0] 3)) 120 #[.pointer (some ⟨w.heap.size, 0, none⟩)] (by simp)
  have L2 := hL.below K2.out
  have RD : Rd w.heap.size w.heap.size (w.heap.size + 1 + 1 + 1) bs _ := ⟨P2, A, c, by rw [← hn]; exact V2.out, by rw [← hn]; exact hc, by rw [← hn]; exact L2⟩
  have cl := Lib.hid (laystate_any Im.zero rfl (w.heap.size + 1) bs w.heap.size w.heap.size _ _ hBy (Nat.le_refl _) (Nat.le_succ _) K2.out.size RD B2.out)
  have HY := Lib.hid hBy
  clear hn hL L2 RD P2 hBy
  go_enter_defers Try.func32, Try.ntmps32
  go_upto_region 3 with (first | (with_reducible refine alloc_state rfl rfl ?_) | (go_at_call 84; ((with_reducible refine (reader_any _ _).mono ?_); rintro e w3 ⟨rfl, rfl⟩)) | (go_at_call 78; ((with_reducible refine (cl.out).mono ?_); rintro r w4 (⟨g, q, rest, S, hr, rfl, hI, hK, hB, hE⟩ | ⟨hn, ⟨ss, rfl⟩, hK, cs', hB, hs⟩); (all_goals first | (obtain ⟨_, A4, c4, hV, _, _⟩ := hI; have R4 := Lib.hid hr; have v4 := hV.cell 0; have B4 := Lib.hid hB; have E4 := Lib.hid hE; have C4 := Lib.hid (hK.kb _ _ _ C2.out (by omega) (by decide) (by decide)); have K4 := Lib.hid (K2.out.trans hK.below); clear hr hV hB hK hE cl) | (have N4 := Lib.hid hn; have B4 := Lib.hid hB; have S4 := Lib.hid hs; have C4 := Lib.hid (hK.kb _ _ _ C2.out (by omega) (by decide) (by decide)); have K4 := Lib.hid (K2.out.trans hK.below); clear hn hB hK hs cl)))))
  rotate_left
  · refine leaves_cons (f := 83) (args := #[.pointer (some ⟨w.heap.size + 1, 0, none⟩), .pointer (some ⟨w.heap.size + 1 + 1, 0, none⟩)]) (by simp) (by simp [go_sem]) ?_
    refine (catch_get (w.heap.size + 1) (w.heap.size + 1 + 1) _ _ [] _ _ S4.out B4.out _ C4.out).mono ?_
    rintro r u' w'' ⟨rfl, rfl, rfl⟩
    have B8 := (B4.out.row Im.zero).far (p := ⟨w.heap.size + 1 + 1, 0, none⟩) (show w.heap.size + 1 ≠ w.heap.size + 1 + 1 by omega) (.int .i64 2)
    have C8 := (C4.out.row_far (show w.heap.size + 1 + 1 ≠ w.heap.size + 1 by omega) Im.zero).put 0 (.int .i64 2)
    have K8 := (Below.setRow' (g := w.heap.size + 1) K4.out (Nat.le_succ _) Im.zero).setCell (p := ⟨w.heap.size + 1 + 1, 0, none⟩) (by show w.heap.size ≤ w.heap.size + 1 + 1; omega) (.int .i64 2)
    have hr := fun (tmps : Array Value) h1 h2 => results_cells2 (fn := Try.f32) (p := 2) (q := 3) rfl tmps _ (w.heap.size + 1) (w.heap.size + 1 + 1) 53 Im.zero _ 2 h1 h2 B8 (by simpa using C8) Try.underlying53 rfl (by rw [Im.zero_size]; exact state_info)
    show Leaves Try.prog _ _ _ [] .returning _
    exact ⟨_, hr _ rfl rfl, .inr ⟨Im.get_no N4.out, rfl, K8⟩⟩
  have HDI := Lib.hid (Im.dec_inv HY.out R4.out)
  have ltS := E4.out.lt
  clear V1 B1 C1 K1 B2 C2 V2 K2
  cases hrest : rest with
  | cons x xs =>
    have HNE := Lib.hid (show ¬ (rest = [] ∧ Im.Ok g q) from fun h => by rw [hrest] at h; cases h.1)
    have hl0 : ((rest.length : Int) == 0) = false := by rw [hrest]; simp; omega
    generalize rest.length = m at *
    clear hrest
    go_wp2_with (go_at_call 76; ((with_reducible refine (need_no _ _).mono ?_); rintro r wn ⟨rfl, rfl⟩))
    refine leaves_cons (f := 83) (args := #[.pointer (some ⟨w.heap.size + 1, 0, none⟩), .pointer (some ⟨w.heap.size + 1 + 1, 0, none⟩)]) (by simp) (by simp [go_sem]) ?_
    refine (catch_get (w.heap.size + 1) (w.heap.size + 1 + 1) _ _ [] _ _ (Im.cells_size _ _ _) B4.out _ C4.out).mono ?_
    rintro r u' w'' ⟨rfl, rfl, rfl⟩
    have B8 := (B4.out.row Im.zero).far (p := ⟨w.heap.size + 1 + 1, 0, none⟩) (show w.heap.size + 1 ≠ w.heap.size + 1 + 1 by omega) (.int .i64 2)
    have C8 := (C4.out.row_far (show w.heap.size + 1 + 1 ≠ w.heap.size + 1 by omega) Im.zero).put 0 (.int .i64 2)
    have K8 := (Below.setRow' (g := w.heap.size + 1) K4.out (Nat.le_succ _) Im.zero).setCell (p := ⟨w.heap.size + 1 + 1, 0, none⟩) (by show w.heap.size ≤ w.heap.size + 1 + 1; omega) (.int .i64 2)
    have hr := fun (tmps : Array Value) h1 h2 => results_cells2 (fn := Try.f32) (p := 2) (q := 3) rfl tmps _ (w.heap.size + 1) (w.heap.size + 1 + 1) 53 Im.zero _ 2 h1 h2 B8 (by simpa using C8) Try.underlying53 rfl (by rw [Im.zero_size]; exact state_info)
    show Leaves Try.prog _ _ _ [] .returning _
    exact ⟨_, hr _ rfl rfl, .inr ⟨Im.get_left R4.out HNE.out, rfl, K8⟩⟩
  | nil =>
    rw [hrest] at v4
    have HNE := Lib.hid hrest
    clear hrest
    have cm := fun X hX => Lib.hid (immay_any g q (some ⟨S, 0, none⟩) g.shots.length g.shots.length X HDI.out.2.1 rfl (by have := HDI.out.2.2; unfold maxLen; omega) hX)
    have L4 := fun X (hX : Below w4.heap.size w4 X) => (lies_boxed (E4.out.below hX E4.out.lt) (Gm.shotCells_len _) : Lies X X.heap.size 6 (some ⟨S, 0, none⟩) g.shots.length (Gm.shotCells g.shots))
    have cmw := cm w4 (L4 w4 (Below.refl _ _))
    go_upto_region 5 with (first | (go_at_call 76; first | ((with_reducible refine (need_yes _ _).mono ?_); rintro r wn ⟨rfl, rfl⟩) | ((with_reducible refine (need_any _ _ _).mono ?_); rintro r wn (⟨hz, rfl, rfl⟩ | ⟨hz, ⟨ss, rfl⟩, rfl⟩))) | ((with_reducible refine im_load_state rfl rfl ?_); apply LoadIm.mk rfl; (focus (with_reducible exact B4.out)); dsimp only) | (go_at_call 77; ((with_reducible refine (cmw.out).mono ?_); rintro r w5 ⟨⟨v, rfl, hv⟩, hb⟩; have HV := Lib.hid hv; have B5 := Lib.hid (B4.out.below hb B4.out.lt); have C5 := Lib.hid (C4.out.below hb C4.out.lt); have E5 := Lib.hid (E4.out.below hb E4.out.lt); have K5 := Lib.hid (K4.out.trans (hb.mono K4.out.size)); clear hb hv)))
    rotate_left
    · have HNO := Lib.hid (show ¬ (rest = [] ∧ Im.Ok g q) from fun h => by have := HV.out.2 h.2; rw [hz] at this; cases this)
      refine leaves_cons (f := 83) (args := #[.pointer (some ⟨w.heap.size + 1, 0, none⟩), .pointer (some ⟨w.heap.size + 1 + 1, 0, none⟩)]) (by simp) (by simp [go_sem]) ?_
      refine (catch_get (w.heap.size + 1) (w.heap.size + 1 + 1) _ _ [] _ _ (Im.cells_size _ _ _) B5.out _ C5.out).mono ?_
      rintro r u' w'' ⟨rfl, rfl, rfl⟩
      have B8 := (B5.out.row Im.zero).far (p := ⟨w.heap.size + 1 + 1, 0, none⟩) (show w.heap.size + 1 ≠ w.heap.size + 1 + 1 by omega) (.int .i64 2)
      have C8 := (C5.out.row_far (show w.heap.size + 1 + 1 ≠ w.heap.size + 1 by omega) Im.zero).put 0 (.int .i64 2)
      have K8 := (Below.setRow' (g := w.heap.size + 1) K5.out (Nat.le_succ _) Im.zero).setCell (p := ⟨w.heap.size + 1 + 1, 0, none⟩) (by show w.heap.size ≤ w.heap.size + 1 + 1; omega) (.int .i64 2)
      have hr := fun (tmps : Array Value) h1 h2 => results_cells2 (fn := Try.f32) (p := 2) (q := 3) rfl tmps _ (w.heap.size + 1) (w.heap.size + 1 + 1) 53 Im.zero _ 2 h1 h2 B8 (by simpa using C8) Try.underlying53 rfl (by rw [Im.zero_size]; exact state_info)
      show Leaves Try.prog _ _ _ [] .returning _
      exact ⟨_, hr _ rfl rfl, .inr ⟨Im.get_left R4.out HNO.out, rfl, K8⟩⟩
    have HYES := Lib.hid (show rest = [] ∧ Im.Ok g q from ⟨HNE.out, HV.out.1 hz⟩)
    clear cm cmw
    have C6 := Lib.hid (C5.out.row_far (show w.heap.size + 1 + 1 ≠ w.heap.size + 1 by omega) (Im.cells g (.slice (some ⟨S, 0, none⟩) g.shots.length g.shots.length) q))
    have c6 := C6.out.cell 0
    have f6 := C6.out.free 0
    go_wp2_with (first | ((with_reducible refine im_load_state rfl rfl ?_); apply LoadIm.mk rfl; (focus (with_reducible exact B5.out)); dsimp only) | ((with_reducible refine blk_gate (t := 53) rfl rfl state_info ?_); apply StoreBlk.mk rfl rfl B5.out (im_cells_one _ _ _ rfl) (Im.cells_size _ _ _) (Im.cells_size _ _ _)))
    have ne : w.heap.size + 1 ≠ w.heap.size + 1 + 1 := by omega
    have B7 := (B5.out.row (Im.cells g (.slice (some ⟨S, 0, none⟩) g.shots.length g.shots.length) q)).far (p := ⟨w.heap.size + 1 + 1, 0, none⟩) ne (.int .i64 0)
    have C7 := C6.out.put 0 (.int .i64 0)
    have E7 := (E5.out.row_far (Box.apart E5.out B5.out (by decide)) (Im.cells g (.slice (some ⟨S, 0, none⟩) g.shots.length g.shots.length) q)).far (p := ⟨w.heap.size + 1 + 1, 0, none⟩) (Box.apart E5.out C5.out (by decide)) (.int .i64 0)
    have K7 := (Below.setRow' (g := w.heap.size + 1) K5.out (Nat.le_succ _) (Im.cells g (.slice (some ⟨S, 0, none⟩) g.shots.length g.shots.length) q)).setCell (p := ⟨w.heap.size + 1 + 1, 0, none⟩) (by show w.heap.size ≤ w.heap.size + 1 + 1; omega) (.int .i64 0)
    refine leaves_cons (f := 83) (args := #[.pointer (some ⟨w.heap.size + 1, 0, none⟩), .pointer (some ⟨w.heap.size + 1 + 1, 0, none⟩)]) (by simp) (by simp [go_sem]) ?_
    refine (catch_idle_get _ _ _).mono ?_
    rintro r u' w'' ⟨rfl, rfl, rfl⟩
    have hr := fun (tmps : Array Value) h1 h2 => results_cells2 (fn := Try.f32) (p := 2) (q := 3) rfl tmps _ (w.heap.size + 1) (w.heap.size + 1 + 1) 53 (Im.cells g (.slice (some ⟨S, 0, none⟩) g.shots.length g.shots.length) q) _ 0 h1 h2 B7 (by simpa using C7) Try.underlying53 rfl (by rw [Im.cells_size]; exact state_info)
    show Leaves Try.prog _ _ _ [] .returning _
    exact ⟨_, hr _ rfl rfl, .inl ⟨g, q, S, Im.get_all R4.out HYES.out, rfl, E7, K7⟩⟩
end Go.Proofs.Ytbihnmingedgfaa

/-
Bytes turned into a string.
-/


namespace Go.Proofs.Ytbihnmingedgfaa
open Go.RowKit Go.Shelf
set_option linter.unusedVariables false
set_option linter.unusedSimpArgs false

theorem conv_bytes (l : List Int) (m : Nat) (A : Option Addr) (c : Nat) (w : World) (B : Nat) (hm : l.length = m) (hL : Lies w B 1 A m (Im.u8s l)) :
    (convert 54 9 (.slice A m c)).run Try.prog w = .ok (.string (strOfNums l)) w := by
  cases A with
  | none =>
    have hm0 : m = 0 := by
      by_cases h0 : m = 0
      · exact h0
      · obtain ⟨ad, e, _⟩ := hL.start h0
        cases e
    have hl0 : l = [] := List.eq_nil_of_length_eq_zero (by omega)
    subst hl0
    exact run_convert_bytes_nil (P := Try.prog) (w := w) 54 5 Try.underlying54 Try.underlying5 m c 9 Try.underlying9
  | some ad =>
    have hl : (loadCells ad m).run Try.prog w = .ok (l.map (Value.int .u8)).toArray w := by
      have := run_loadCells_list (P := Try.prog) w ad (l.map (Value.int .u8)) (fun j v hj => hL.cell ad rfl (fun h0 => by
        have := (List.getElem?_eq_some_iff.1 hj).1
        rw [List.length_map] at this
        omega) j v hj)
      simpa [hm] using this
    rw [run_convert_bytes_string w 54 9 5 _ m c Try.underlying54 Try.underlying5 Try.underlying9, run_bytesToString w _ m c l hl, foldl_push_bytes]
    simp [strOfNums, ByteArray.empty, ByteArray.emptyWithCapacity]
    rfl

end Go.Proofs.Ytbihnmingedgfaa

/-
The document's own numbers in strings: as bytes of a string, and read from its front.
-/



namespace Sx
open Go Im
set_option linter.unusedVariables false
theorem str_append (a b : List Int) : strOfNums (a ++ b) = strOfNums a ++ strOfNums b := by
  apply ByteArray.ext
  simp [strOfNums, ByteArray.data_append]
theorem str_drop (l : List Int) (n : Nat) : (strOfNums l).extract n (strOfNums l).size = strOfNums (l.drop n) := by
  apply ByteArray.ext
  rw [strOfNums_size]
  simp [strOfNums, ByteArray.data_extract, List.map_drop]
  exact List.take_of_length_le (by simp)
theorem str_at {l : List Int} (hB : IsBytes l) (k : Nat) (h : k < l.length) (h' : k < (strOfNums l).size) : (((strOfNums l)[k]'h').toNat : Int) = l.getD k 0 := by
  have hb := hB.get k
  have e : (strOfNums l)[k]'h' = UInt8.ofNat (l.getD k 0).toNat := by
    show (strOfNums l).data[k]'h' = _
    simp [strOfNums, List.getD_eq_getElem?_getD, h]
  rw [e]
  have : (UInt8.ofNat (l.getD k 0).toNat).toNat = (l.getD k 0).toNat := by rw [UInt8.toNat_ofNat']; omega
  rw [this]; omega
theorem str_inj {a b : List Int} (ha : IsBytes a) (hb : IsBytes b) (h : strOfNums a = strOfNums b) : a = b := by
  have hl : a.length = b.length := by rw [← strOfNums_size, ← strOfNums_size, h]
  refine List.ext_getElem hl fun i h1 h2 => ?_
  have e1 := str_at ha i h1 (by rw [strOfNums_size]; exact h1)
  have e2 := str_at hb i h2 (by rw [strOfNums_size]; exact h2)
  have e3 : ((strOfNums a)[i]'(by rw [strOfNums_size]; exact h1)).toNat = ((strOfNums b)[i]'(by rw [strOfNums_size]; exact h2)).toNat := by congr 1; congr 1
  rw [List.getD_eq_getElem?_getD, List.getElem?_eq_getElem h1] at e1
  rw [List.getD_eq_getElem?_getD, List.getElem?_eq_getElem h2] at e2
  simp only [Option.getD_some] at e1 e2
  rw [← e1, ← e2, e3]
theorem str_toList (l : List Int) : (strOfNums l).toList = (strOfNums l).data.toList := Lib.toList_data _
theorem str_eq_iff {a b : List Int} (ha : IsBytes a) (hb : IsBytes b) : ((strOfNums a).toList == (strOfNums b).toList) = decide (a = b) := by
  by_cases h : a = b
  · subst h; simp
  · have : ¬ (strOfNums a).toList = (strOfNums b).toList := fun e => h (str_inj ha hb (ByteArray.ext (by rw [str_toList, str_toList] at e; exact Array.toList_inj.1 e)))
    rw [decide_eq_false h]; simpa using this
theorem val_shift (f : Nat → Int) : ∀ n, val f (n + 1) = f 0 + 256 * val (fun k => f (k + 1)) n
  | 0 => by simp [val]
  | n + 1 => by
    show val f (n + 1) + f (n + 1) * 2 ^ (8 * (n + 1)) = _
    rw [val_shift f n]
    show _ = f 0 + 256 * (val (fun k => f (k + 1)) n + f (n + 1) * 2 ^ (8 * n))
    have e : (2 : Int) ^ (8 * (n + 1)) = 2 ^ (8 * n) * 256 := by rw [show 8 * (n + 1) = 8 * n + 8 by omega, Int.pow_add]; rfl
    rw [e]
    generalize (2 : Int) ^ (8 * n) = p
    grind
theorem or_low (v x : Int) (hv : 0 ≤ v ∧ v < 2 ^ 56) (hx : 0 ≤ x ∧ x ≤ 255) : bits .or .u64 (v * 256) x = v * 256 + x := by
  obtain ⟨V, rfl⟩ := Int.eq_ofNat_of_zero_le hv.1
  obtain ⟨X, rfl⟩ := Int.eq_ofNat_of_zero_le hx.1
  have e : (V : Int) * 256 = ((256 * V : Nat) : Int) := by omega
  have hX : X < 2 ^ 8 := by omega
  have h2 : 256 * V ||| X = 256 * V + X := (Nat.two_pow_add_eq_or_of_lt hX V).symm
  rw [e, u64_or_nat _ _ (by omega) (by omega), h2]
  omega
/-- What a reader has left: none behind a fault. -/
def num (n : Nat) (o : Option (List Int)) : Int := ((o.bind (rdn n)).map (·.1)).getD 0
def rest (n : Nat) (o : Option (List Int)) : Option (List Int) := (o.bind (rdn n)).map (·.2)
theorem num_some {n : Nat} {l m : List Int} {v : Int} (h : rdn n l = some (v, m)) : num n (some l) = v ∧ rest n (some l) = some m := by unfold num rest; rw [Option.bind_some, h]; exact ⟨rfl, rfl⟩
theorem num_none {n : Nat} {l : List Int} (h : rdn n l = none) : num n (some l) = 0 ∧ rest n (some l) = none := by unfold num rest; rw [Option.bind_some, h]; exact ⟨rfl, rfl⟩
theorem num_bad (n : Nat) : num n none = 0 ∧ rest n none = none := ⟨rfl, rfl⟩
theorem num_lt {n : Nat} {o : Option (List Int)} (hB : ∀ l, o = some l → IsBytes l) : 0 ≤ num n o ∧ num n o < 2 ^ (8 * n) := by
  have hp : (0 : Int) < 2 ^ (8 * n) := Int.pow_pos (by decide)
  match o with
  | none => exact ⟨Int.le_refl _, hp⟩
  | some l =>
    cases h : rdn n l with
    | none => rw [(num_none h).1]; exact ⟨Int.le_refl _, hp⟩
    | some q =>
      have h' : rdn n l = some (q.1, q.2) := h
      rw [(num_some h').1]
      obtain ⟨_, h1, h2, _⟩ := rdn_inv (hB l rfl) h'
      exact ⟨h1, h2⟩
theorem rest_bytes {n : Nat} {o : Option (List Int)} (hB : ∀ l, o = some l → IsBytes l) : ∀ l, rest n o = some l → IsBytes l := fun l h => by
  match o with
  | none => cases h
  | some m =>
    cases hr : rdn n m with
    | none => rw [(num_none hr).2] at h; cases h
    | some q =>
      have hr' : rdn n m = some (q.1, q.2) := hr
      rw [(num_some hr').2] at h
      injection h with h
      subst h
      exact (rdn_inv (hB m rfl) hr').2.2.2
end Sx
namespace Go.Proofs.Ytbihnmingedgfaa
open Go.RowKit Go.Shelf
set_option linter.unusedVariables false
set_option linter.unusedSimpArgs false

/-- Everything stays but block B. -/
structure Sol (B : Nat) (w w' : World) : Prop where
  os : w'.os = w.os
  tape : w'.tape = w.tape
  output : w'.output = w.output
  size : w.heap.size ≤ w'.heap.size
  block : ∀ k, k < w.heap.size → k ≠ B → w'.heap[k]? = w.heap[k]?
section
variable {B b : Nat} {w w' w'' : World}
theorem Sol.refl (B : Nat) (w : World) : Sol B w w := ⟨rfl, rfl, rfl, Nat.le_refl _, fun _ _ _ => rfl⟩
theorem Sol.trans (h : Sol B w w') (k : Sol B w' w'') : Sol B w w'' := ⟨k.os.trans h.os, k.tape.trans h.tape, k.output.trans h.output, Nat.le_trans h.size k.size, fun i hi hne => (k.block i (Nat.lt_of_lt_of_le hi h.size) hne).trans (h.block i hi hne)⟩
theorem Sol.put (h : Sol B w w') (i : Nat) (u : Value) : Sol B w (w'.setCell ⟨B, i, none⟩ u) := by
  have hz := (Below.refl 0 w').setCell (p := ⟨B, i, none⟩) (Nat.zero_le _) u
  exact h.trans ⟨hz.os, hz.tape, hz.output, hz.size, fun k hk hne => heap_setCell_other w' ⟨B, i, none⟩ k u hne⟩
theorem Sol.call (h : Sol B w w') (hb : Below w'.heap.size w' w'') : Sol B w w'' := h.trans ⟨hb.os, hb.tape, hb.output, hb.size, fun k hk _ => hb.block k hk⟩
theorem Sol.fresh (h : Sol B w w') {p : Addr} (hp : w.heap.size ≤ p.block) (u : Value) : Sol B w (w'.setCell p u) := by
  have hz := (Below.refl 0 w').setCell (p := p) (Nat.zero_le _) u
  exact ⟨hz.os.trans h.os, hz.tape.trans h.tape, hz.output.trans h.output, Nat.le_trans h.size hz.size, fun k hk hne => (heap_setCell_other w' p k u (by omega)).trans (h.block k hk hne)⟩
theorem Sol.freshRow (h : Sol B w w') {g : Nat} (hp : w.heap.size ≤ g) (cs : Array Value) : Sol B w (w'.setRow g cs) := by
  have hz := Below.setRow' (g := g) (Below.refl 0 w') (Nat.zero_le _) cs
  exact ⟨hz.os.trans h.os, hz.tape.trans h.tape, hz.output.trans h.output, Nat.le_trans h.size hz.size, fun k hk hne => (setRow_other w' g k cs (by omega)).trans (h.block k hk hne)⟩
theorem Sol.below (h : Sol B w w') (hb : b ≤ B) (hs : b ≤ w.heap.size) : Below b w w' := ⟨h.os, h.tape, h.output, h.size, fun i hi => h.block i (by omega) (by omega)⟩
theorem Box.sol {g : Nat} {t : TypeId} {cs : Array Value} (h : Box w g t cs) (k : Sol B w w') (hne : g ≠ B) : Box w' g t cs := ⟨(k.block g h.lt hne).trans h.is⟩
end
/-- The document's reader: what is left of its bytes, or that it is bad. -/
def RIs (w : World) (B : Nat) : Option (List Int) → Prop
  | none => ∃ s : ByteArray, Box w B 127 #[.string s, .bool true]
  | some l => Box w B 127 #[.string (strOfNums l), .bool false]
section
variable {B : Nat} {w w' : World} {o : Option (List Int)}
theorem RIs.box (h : RIs w B o) : ∃ s b, Box w B 127 #[.string s, .bool b] := by
  match o with
  | none => obtain ⟨s, h⟩ := h; exact ⟨s, _, h⟩
  | some l => exact ⟨_, _, h⟩
theorem RIs.lt (h : RIs w B o) : B < w.heap.size := by obtain ⟨s, b, h⟩ := h.box; exact h.lt
theorem RIs.stays (h : RIs w B o) (hk : w'.heap[B]? = w.heap[B]?) : RIs w' B o := by
  match o with
  | none => obtain ⟨s, h⟩ := h; exact ⟨s, ⟨hk.trans h.is⟩⟩
  | some l => exact (⟨hk.trans (show Box w B _ _ from h).is⟩ : Box w' B 127 #[.string (strOfNums l), .bool false])
theorem RIs.below {b : Nat} (h : RIs w B o) (hb : Below b w w') (hB : B < b) : RIs w' B o := h.stays (hb.block B hB)
theorem RIs.alloc (h : RIs w B o) (x : Obj) : RIs (w.alloc x) B o := h.below (one_below w x) h.lt
theorem RIs.apart {g : Nat} {t : TypeId} {cs : Array Value} (h : RIs w B o) (hg : Box w g t cs) (ht : t ≠ 127) : g ≠ B := by
  obtain ⟨s, b, h⟩ := h.box
  exact Box.apart hg h ht
theorem RIs.off {p : Addr} {t : TypeId} {cs : Array Value} (h : RIs w B o) (hg : Box w p.block t cs) (ht : t ≠ 127) (u : Value) : RIs (w.setCell p u) B o :=
  h.stays (heap_setCell_other w p B u (fun e => h.apart hg ht e.symm))
theorem RIs.offRow {g : Nat} {t : TypeId} {cs : Array Value} (h : RIs w B o) (hg : Box w g t cs) (ht : t ≠ 127) (cs' : Array Value) : RIs (w.setRow g cs') B o :=
  h.stays (setRow_other w g B cs' (fun e => h.apart hg ht e.symm))
theorem RIs.bad (h : RIs w B o) : RIs (w.setCell ⟨B, 1, none⟩ (.bool true)) B none := by
  obtain ⟨s, b, h⟩ := h.box
  exact ⟨s, h.put 1 _⟩
end

theorem below_gone {B : Nat} {w0 w w' : World} {row : Option Nat} (h : Below B w0 w) (hg : w.grownBy w' row) (hr : ∀ r, row = some r → B ≤ r) (hB : B ≤ w0.heap.size) : Below B w0 w' :=
  ⟨hg.os.trans h.os, hg.tape.trans h.tape, hg.output.trans h.output, Nat.le_trans h.size hg.size, fun i hi => (hg.block i (Nat.lt_of_lt_of_le hi (Nat.le_trans hB h.size)) (fun e => by have := hr i e.symm; omega)).trans (h.block i hi)⟩
theorem own_at {w : World} {base : Nat} {e : TypeId} {size n : Nat} {v : Value} {xs : List Value} (h : w.ownsRow base e size v n xs) : ∀ r, v.ownBlock = some r → base ≤ r := fun r hr => by
  obtain ⟨_, ⟨rfl, _⟩ | ⟨g, cap, cur, rfl, hbg, _⟩⟩ := h
  · cases hr
  · have e' : g = r := by injection hr
    omega
set_option maxRecDepth 100000 in
set_option maxHeartbeats 4000000 in
theorem rnum_any (n : Nat) (z : Int) (hz : z = n) (o : Option (List Int)) (B : Nat) (w : World) (hn : 1 ≤ n ∧ n ≤ 8) (hB : ∀ l, o = some l → Im.IsBytes l) (h : RIs w B o) :
    Calls Try.prog 86 #[.pointer (some ⟨B, 0, none⟩), .int .i64 z] w fun e w' => e = .returned (.int .u64 (Sx.num n o)) ∧ RIs w' B (Sx.rest n o) ∧ Sol B w w' := by
  match o with
  | none =>
    obtain ⟨s, hs⟩ := h
    have c0 := hs.cell 0
    have c1 := hs.cell 1
    have f0 := hs.free 0
    have f1 := hs.free 1
    have HB := Lib.hid hs
    clear hs hB
    go_enter Try.func86, Try.ntmps86
    go_wp2
    go_ret
    exact ⟨rfl, ⟨_, (HB.out.put 1 (.bool true)).put 0 (.string ⟨#[]⟩)⟩, ((Sol.refl B w).put 1 _).put 0 _⟩
  | some l =>
    have hs : Box w B 127 #[.string (strOfNums l), .bool false] := h
    have c0 := hs.cell 0
    have c1 := hs.cell 1
    have f0 := hs.free 0
    have f1 := hs.free 1
    have HB := Lib.hid hs
    have hsz := strOfNums_size l
    clear h hs
    by_cases hlt : l.length < n
    · have hr := Im.rdn_few hlt
      obtain ⟨e1, e2⟩ := Sx.num_none hr
      rw [e1, e2]
      have hlz : (l.length : Int) < z := by omega
      generalize strOfNums l = s at *
      clear e1 e2 hr hB
      go_enter Try.func86, Try.ntmps86
      go_wp2
      go_ret
      exact ⟨rfl, ⟨_, (HB.out.put 1 (.bool true)).put 0 (.string ⟨#[]⟩)⟩, ((Sol.refl B w).put 1 _).put 0 _⟩
    · have hlz : ¬ (l.length : Int) < z := by omega
      have hr : Im.rdn n l = some (Im.val (fun k => l.getD k 0) n, l.drop n) := by unfold Im.rdn; rw [if_pos (by omega)]
      obtain ⟨e1, e2⟩ := Sx.num_some hr
      rw [e1, e2]
      have hby := hB l rfl
      have HX := Lib.hid (Sx.str_drop l n)
      have HAT := Lib.hid (fun k (hk : k < l.length) h' => Sx.str_at hby k hk h')
      have HGET := Lib.hid (fun k => hby.get k)
      generalize strOfNums l = s at *
      clear e1 e2 hr hB
      go_enter Try.func86, Try.ntmps86
      go_wp2
      go_loopw [5, 6] (fun v i wr => ∃ m : Nat, m ≤ n ∧ i = .int .i64 ((m : Int) - 1) ∧ v = .int .u64 (Im.val (fun k => l.getD (m + k) 0) (n - m)) ∧ w = wr) (fun _ i _ => (intOf i + 1).toNat)
      case atStart => exact ⟨n, by omega, by subst hz; rfl, by rw [Nat.sub_self]; rfl, rfl⟩
      case round =>
        obtain ⟨m, hm, rfl, rfl, rfl⟩ := hrel
        by_cases h0 : 0 < m
        · obtain ⟨q, rfl⟩ : ∃ q, m = q + 1 := ⟨m - 1, by omega⟩
          have hge : (0 : Int) ≤ ((q + 1 : Nat) : Int) - 1 := by omega
          have hvl := Im.val_lt (fun k => l.getD (q + 1 + k) 0) (fun k => HGET.out _) (n - (q + 1))
          have hp : (2 : Int) ^ (8 * (n - (q + 1))) ≤ 2 ^ 56 := by
            have := Nat.pow_le_pow_right (show 0 < 2 by decide) (show 8 * (n - (q + 1)) ≤ 56 by omega)
            exact_mod_cast this
          have hq8 : q < l.length := by omega
          have hx := HAT.out q hq8 (by omega)
          have hxb := HGET.out q
          have hnext : Im.val (fun k => l.getD (q + k) 0) (n - q) = Im.val (fun k => l.getD (q + 1 + k) 0) (n - (q + 1)) * 256 + l.getD q 0 := by
            rw [show n - q = (n - (q + 1)) + 1 by omega, Sx.val_shift]
            rw [show (fun k => l.getD (q + (k + 1)) 0) = fun k => l.getD (q + 1 + k) 0 from funext fun k => by rw [show q + (k + 1) = q + 1 + k by omega]]
            simp only [Nat.add_zero]
            omega
          have HN := Lib.hid hnext
          generalize Im.val (fun k => l.getD (q + 1 + k) 0) (n - (q + 1)) = v at *
          generalize l.getD q 0 = x at *
          have hq1 : ((q + 1 : Nat) : Int) - 1 = q := by omega
          have hor := Sx.or_low v x ⟨hvl.1, by omega⟩ hxb
          have hwv : IntKind.u64.wrap (v * 256) = v * 256 := by rw [IntKind.wrap_u64]; omega
          rw [hq1] at hge ⊢
          clear hnext hp hlz c1 f1
          go_wp2
          go_roundw
          case rel => exact ⟨q, by omega, rfl, by rw [HN.out], by first | rfl | trivial⟩
          case measure => simp [intOf] <;> omega
        · obtain rfl : m = 0 := by omega
          have hx2 : s.extract n l.length = strOfNums (l.drop n) := by rw [← hsz]; exact HX.out
          have hzn : z.toNat = n := by omega
          have hz0 : 0 ≤ z := by omega
          have hz1 : z ≤ (s.size : Int) := by omega
          clear HAT HGET
          go_wp2
          go_ret
          refine ⟨?_, HB.out.put 0 (.string (strOfNums (l.drop n))), (Sol.refl B w).put 0 _⟩
          show Ending.returned (.int .u64 (Im.val (fun k => l.getD (0 + k) 0) (n - 0))) = _
          rw [Nat.sub_zero, Im.val_congr (g := fun k => l.getD k 0) n (fun k _ => by rw [Nat.zero_add])]

set_option maxRecDepth 100000 in
theorem rint_any (n : Nat) (z : Int) (hz : z = n) (o : Option (List Int)) (B : Nat) (w : World) (hn : 1 ≤ n ∧ n ≤ 4) (hB : ∀ l, o = some l → Im.IsBytes l) (h : RIs w B o) :
    Calls Try.prog 85 #[.pointer (some ⟨B, 0, none⟩), .int .i64 z] w fun e w' => e = .returned (.int .i64 (Sx.num n o)) ∧ RIs w' B (Sx.rest n o) ∧ Sol B w w' := by
  subst hz
  have c1 := Lib.hid (rnum_any n n rfl o B w (by omega) hB h)
  have hl := Sx.num_lt (n := n) hB
  have hp : (2 : Int) ^ (8 * n) ≤ 2 ^ 32 := by
    have := Nat.pow_le_pow_right (show 0 < 2 by decide) (show 8 * n ≤ 32 by omega)
    exact_mod_cast this
  generalize Sx.num n o = v at *
  have hw : IntKind.i64.wrap v = v := by rw [IntKind.wrap_i64]; omega
  clear hB h hl hp
  go_enter Try.func85, Try.ntmps85
  go_wp2_with (go_at_call 86; ((with_reducible refine (c1.out).mono ?_); rintro e w1 ⟨rfl, h1, h2⟩; have H1 := Lib.hid h1; have H2 := Lib.hid h2; clear h1 h2))
  go_ret
  exact ⟨rfl, H1.out, H2.out⟩
def Sx.ended : Option (List Int) → Bool
  | some [] => true
  | _ => false
set_option maxRecDepth 100000 in
theorem rend_any (o : Option (List Int)) (B : Nat) (w : World) (hB : ∀ l, o = some l → Im.IsBytes l) (h : RIs w B o) :
    Calls Try.prog 88 #[.pointer (some ⟨B, 0, none⟩)] w fun e w' => e = .returned (.bool (Sx.ended o)) ∧ w = w' := by
  match o with
  | none =>
    obtain ⟨s, hs⟩ := h
    have c0 := hs.cell 0
    have c1 := hs.cell 1
    clear hs hB
    go_enter Try.func88, Try.ntmps88
    go_wp2
    go_ret
    exact ⟨rfl, rfl⟩
  | some l =>
    have hs : Box w B 127 #[.string (strOfNums l), .bool false] := h
    have c0 := hs.cell 0
    have c1 := hs.cell 1
    have he : ((strOfNums l).toList == (⟨#[]⟩ : ByteArray).toList) = Sx.ended (some l) := by
      rw [show (⟨#[]⟩ : ByteArray) = strOfNums [] from rfl, Sx.str_eq_iff (hB l rfl) Im.IsBytes.nil]
      cases l <;> rfl
    have he2 : (strOfNums l).toList.isEmpty = Sx.ended (some l) := by
      rw [← he]
      rw [show (⟨#[]⟩ : ByteArray).toList = [] from Lib.toList_data _]
      cases (strOfNums l).toList <;> rfl
    generalize Sx.ended (some l) = r at *
    generalize strOfNums l = s at *
    clear hs h hB
    go_enter Try.func88, Try.ntmps88
    go_wp2
    go_ret
    exact ⟨rfl, rfl⟩

/-! Numbers are put. -/
set_option maxRecDepth 100000 in
set_option maxHeartbeats 4000000 in
theorem refput_num (size : Nat) (z v : Int) (hz : z = size) (w : World) (hs : size ≤ 8) (hv : 0 ≤ v ∧ v ≤ 18446744073709551615) :
    Calls Try.prog 81 #[.int .u64 v, .int .i64 z] w fun e w' => e = .returned (.string (strOfNums (Im.bytesOf size v))) ∧ Below w.heap.size w w' := by
  subst hz
  go_enter Try.func81, Try.ntmps81
  go_wp2
  go_loopw [5, 6] (fun l i wr => ∃ k : Nat, k ≤ size ∧ i = .int .i64 k ∧ wr.ownsRow w.heap.size 5 1 l k (Im.u8s (Im.bytesOf k v)) ∧ Below w.heap.size w wr) (fun _ i _ => size - (intOf i).toNat)
  case atStart => exact ⟨0, by omega, rfl, ⟨rfl, .inl ⟨rfl, rfl⟩⟩, Below.refl _ _⟩
  case round =>
    obtain ⟨k, hk, rfl, hO, hb⟩ := hrel
    obtain ⟨A, c, rfl⟩ := owned_slice hO
    by_cases hlt : k < size
    · have hk8 : (k : Int) < size := by omega
      have h8 : IntKind.i64.wrap (8 * (k : Int)) = 8 * k := by rw [IntKind.wrap_i64]; omega
      have h9 : IntKind.u64.wrap (8 * (k : Int)) = 8 * k := by rw [IntKind.wrap_u64]; omega
      have hsn : Im.u8s (Im.bytesOf (k + 1) v) = Im.u8s (Im.bytesOf k v) ++ Im.u8s [v / 2 ^ (8 * k) % 256] := by rw [← Im.u8s_append]; rfl
      have HSN := Lib.hid hsn
      have HO := Lib.hid hO
      have HB := Lib.hid hb
      have sz := hb.size
      obtain ⟨i0, hi0, hz0, hz1, hz2⟩ := u8_parts
      have hI := Lib.hid hi0
      have hZ := Lib.hid hz0
      have hS := Lib.hid hz1
      have hY := Lib.hid hz2
      clear hsn hO hb hi0 hz0 hz1 hz2
      go_wp2_with ((with_reducible refine append_gate (t := 54) (e := 5) (size := 1) (bytes := 1) rfl rfl Try.underlying54 hI.out hZ.out hS.out hY.out rfl (by decide) ?_); refine Appends.mk (base := w.heap.size) (n := k) (xs := Im.u8s (Im.bytesOf k v)) rfl (HO.out.alloc _) (lies_byte wr (v / 2 ^ (8 * k) % 256)) (Im.u8s_one _) (by unfold maxLen; omega) (by omega) (by simp; omega) ?_; intro A3 c3 w3 own3 hg3; have O3 := Lib.hid own3; have K3 := Lib.hid (below_gone (HB.out.alloc sz _) hg3 (own_at (HO.out)) (Nat.le_refl _)); clear own3 hg3)
      go_roundw
      case rel => exact ⟨k + 1, by omega, by go_num, by rw [HSN.out]; exact O3.out, K3.out⟩
      case measure => simp [intOf]; omega
    · have hk8 : ¬ (k : Int) < size := by omega
      obtain rfl : k = size := by omega
      have hcv := conv_bytes (Im.bytesOf k v) k A c wr _ (Im.bytesOf_len _ _) (Lies.owned hO)
      have HB := Lib.hid hb
      clear hO hb
      go_wp2
      go_ret
      exact ⟨rfl, HB.out⟩
end Go.Proofs.Ytbihnmingedgfaa

/-
The document's image: a state's bytes.
-/




namespace Go.Proofs.Ytbihnmingedgfaa
open Go.RowKit Go.Shelf
set_option linter.unusedVariables false
set_option linter.unusedSimpArgs false

/-- Two strings, one behind the other: their sum has a name. -/
theorem str_sum {a b c : List Int} {x y : ByteArray} (hx : x = strOfNums a) (hy : y = strOfNums b) (hc : a ++ b = c) (hl : a.length + b.length ≤ 1000000) : ∃ u : ByteArray, u = strOfNums c ∧ x ++ y = u ∧ ¬ 9223372036854775807 < x.size + y.size := by
  subst hx hy hc
  exact ⟨_, rfl, (Sx.str_append a b).symm, by rw [strOfNums_size, strOfNums_size]; omega⟩
theorem refour_any (x : Int) (w : World) (hx : -2147483648 ≤ x ∧ x ≤ 2147483647) :
    Calls Try.prog 82 #[.int .i32 x] w fun e w' => e = .returned (.string (strOfNums (Im.bytesOf 4 (IntKind.u64.wrap x)))) ∧ Below w.heap.size w w' := by
  have e : Im.bytesOf 4 (IntKind.u64.wrap x) = Im.bytesOf 4 (x % 4294967296) := by
    have e : ∀ v : Int, Im.bytesOf 4 v = [v % 256, v / 256 % 256, v / 65536 % 256, v / 16777216 % 256] := fun v => by simp [Im.bytesOf]
    rw [e, e, wrap_u64']
    simp only [List.cons.injEq, and_true]
    omega
  rw [e]
  have hw : IntKind.u32.wrap x = x % 4294967296 := by simp [IntKind.wrap, IntKind.bits, IntKind.signed]
  have hw2 : IntKind.u64.wrap (x % 4294967296) = x % 4294967296 := by rw [wrap_u64']; omega
  have h0 : 0 ≤ x % 4294967296 ∧ x % 4294967296 ≤ 18446744073709551615 := by omega
  have c1 := fun X => Lib.hid (refput_num 4 4 (x % 4294967296) rfl X (by decide) h0)
  generalize x % 4294967296 = y at *
  go_enter Try.func82, Try.ntmps82
  go_wp2_with (go_at_call 81; ((with_reducible refine ((c1 _).out).mono ?_); rintro r w3 ⟨rfl, hb⟩; have K1 := Lib.hid hb; clear hb))
  go_ret
  exact ⟨rfl, K1.out⟩
theorem Im.bytes11 : Im.bytesOf 1 1 = [1] := by decide
theorem Im.bytes10 : Im.bytesOf 1 0 = [0] := by decide
theorem Im.ship_on (x y vx vy cool score : Int) : Im.ship ⟨true, x, y, vx, vy, cool, score⟩ = [1] ++ (Im.bytesOf 4 (IntKind.u64.wrap x) ++ (Im.bytesOf 4 (IntKind.u64.wrap y) ++ (Im.bytesOf 4 (IntKind.u64.wrap vx) ++ (Im.bytesOf 4 (IntKind.u64.wrap vy) ++ (Im.bytesOf 1 cool ++ Im.bytesOf 4 score))))) := by
  unfold Im.ship
  rw [if_pos rfl, Im.flight_parts, Im.bytes11]
  simp [Im.parts']
theorem Im.shot_is (o x y vx vy l : Int) : Im.shot ⟨o, x, y, vx, vy, l⟩ = Im.bytesOf 1 o ++ (Im.bytesOf 4 (IntKind.u64.wrap x) ++ (Im.bytesOf 4 (IntKind.u64.wrap y) ++ (Im.bytesOf 4 (IntKind.u64.wrap vx) ++ (Im.bytesOf 4 (IntKind.u64.wrap vy) ++ Im.bytesOf 1 l)))) := by
  unfold Im.shot
  rw [Im.flight_parts]
  simp [Im.parts']

set_option maxRecDepth 100000 in
set_option maxHeartbeats 8000000 in
theorem refputst_yes (g : Gm.G) (r : Ros.R) (A : Option Addr) (n c : Nat) (w : World) (hok : Im.Ok g r) (hd : 0 ≤ g.dice ∧ g.dice ≤ 18446744073709551615) (hn : n = g.shots.length) (hL : Lies w w.heap.size 6 A n (Gm.shotCells g.shots)) :
    Calls Try.prog 31 #[.agg (Im.cells g (.slice A n c) r)] w fun e w' => e = .returned (.string (strOfNums (Im.put g r))) ∧ Below w.heap.size w w' := by
  obtain ⟨hgo, hro, _⟩ := hok
  obtain ⟨f0, f1, hn32, hships, hshots⟩ := hgo
  obtain ⟨⟨v0, v1⟩, hseats, _⟩ := Ros.ok_iff.1 hro
  rw [← hn] at hn32
  have HN := Lib.hid hn
  have P0 := Lib.hid (Box.made w 53 (Im.cells g (.slice A n c) r))
  have K0 := Lib.hid (one_below w (.cells (Im.cells g (.slice A n c) r) 53))
  have hr0 := Lib.hid ((hL.below K0.out).wider K0.out.size)
  have hr1 := Lib.hid hL
  have hwf : IntKind.u64.wrap g.frame = g.frame := by rw [IntKind.wrap_u64]; omega
  have hwn : IntKind.u64.wrap (n : Int) = n := by rw [IntKind.wrap_u64]; omega
  have hwv : IntKind.u64.wrap r.version = r.version := by rw [IntKind.wrap_u64]; omega
  have f2 : g.frame ≤ 18446744073709551615 := by omega
  have HP := Lib.hid (show Im.put g r = Im.bytesOf 4 g.frame ++ Im.bytesOf 8 g.dice ++ Im.ships g.ship 8 ++ Im.bytesOf 1 (n : Int) ++ Im.shots g.shots ++ Im.bytesOf 4 r.version ++ Im.seats r 8 by unfold Im.put; rw [← hn]; simp only [List.append_assoc])
  clear hL hn hro
  go_enter Try.func31, Try.ntmps31
  go_upto_region 1 with fail
  generalize hW0 : w.alloc (.cells (Im.cells g (.slice A n c) r) 53) = W0 at *
  clear hW0
  have z0 : ∀ q : Ext W0.heap.size W0, q.w.cell? ⟨w.heap.size, 0, none⟩ = some (.int .i64 g.frame) := fun q => q.cell P0.out.lt ((P0.out.cell 0).trans ((Im.cells_g _ _ _ 0 (by omega)).trans (Gm.cells_0 _ _)))
  have z1 : ∀ q : Ext W0.heap.size W0, q.w.cell? ⟨w.heap.size, 1, none⟩ = some (.int .u64 g.dice) := fun q => q.cell P0.out.lt ((P0.out.cell 1).trans ((Im.cells_g _ _ _ 1 (by omega)).trans (Gm.cells_1 _ _)))
  obtain ⟨s1, hs1⟩ : ∃ s, s = strOfNums (Im.bytesOf 4 g.frame) := ⟨_, rfl⟩
  obtain ⟨s2, hs2⟩ : ∃ s, s = strOfNums (Im.bytesOf 8 g.dice) := ⟨_, rfl⟩
  obtain ⟨s3, hs3, ha3, hc3⟩ := str_sum hs1 hs2 rfl (by rw [Im.bytesOf_len, Im.bytesOf_len]; omega)
  have cn1 := fun X => Lib.hid (refput_num 4 4 g.frame rfl X (by decide) ⟨f0, f2⟩)
  have cn2 := fun X => Lib.hid (refput_num 8 8 g.dice rfl X (by decide) hd)
  rw [← hs1] at cn1
  rw [← hs2] at cn2
  have HS3 := Lib.hid hs3
  clear hs1 hs2 hs3
  refine wp_region_ext W0.heap.size W0 (by kernel_rfl) (by kernel_rfl) (Below.refl _ _) ?_
  repeat (first | go_big_quiet_step ((go_at_call 81; first | with_reducible exact Calls.ext_of (Nat.le_refl _) (cn1 _).out | with_reducible exact Calls.ext_of (Nat.le_refl _) (cn2 _).out)))
  refine wpQuiet_nil ?_
  intro _ hw'
  obtain ⟨q0, hw''⟩ := hw'
  subst hw''
  have K1 := Lib.hid q0.h
  clear z0 z1 cn1 cn2
  go_wp2
  go_loopw [3, 4] (fun sv i wr => ∃ k : Nat, k ≤ 8 ∧ i = .int .i64 k ∧ sv = .string (strOfNums (Im.bytesOf 4 g.frame ++ Im.bytesOf 8 g.dice ++ Im.ships g.ship k)) ∧ Below W0.heap.size W0 wr) (fun _ i _ => 8 - (intOf i).toNat)
  case atStart => exact ⟨0, by omega, rfl, by rw [HS3.out]; simp [Im.ships], K1.out⟩
  case round =>
    obtain ⟨k, hk, rfl, rfl, hb⟩ := hrel
    have PB := Lib.hid (P0.out.below hb P0.out.lt)
    have HB := Lib.hid hb
    have hsl := Im.ships_le g.ship k
    have hlen : (Im.bytesOf 4 g.frame ++ Im.bytesOf 8 g.dice ++ Im.ships g.ship k).length ≤ 12 + 22 * k := by
      rw [List.length_append, List.length_append, Im.bytesOf_len, Im.bytesOf_len]; omega
    by_cases hlt : k < 8
    · have hk8 : (k : Int) < 8 := by omega
      have hstep : Im.bytesOf 4 g.frame ++ Im.bytesOf 8 g.dice ++ Im.ships g.ship (k + 1) = Im.bytesOf 4 g.frame ++ Im.bytesOf 8 g.dice ++ Im.ships g.ship k ++ Im.ship (g.ship k) := by
        show Im.bytesOf 4 g.frame ++ Im.bytesOf 8 g.dice ++ (Im.ships g.ship k ++ Im.ship (g.ship k)) = _
        simp only [List.append_assoc]
      have e := fun j hj => (PB.out.cell (2 + k * 7 + j)).trans (Im.cells_ship g (.slice A n c) r k j hlt hj)
      have e0 := e 0 (by omega)
      have e1 := e 1 (by omega)
      have e2 := e 2 (by omega)
      have e3 := e 3 (by omega)
      have e4 := e 4 (by omega)
      have e5 := e 5 (by omega)
      have e6 := e 6 (by omega)
      have ho := hships k hlt
      have ty := ho.ty
      generalize g.ship k = s at e0 e1 e2 e3 e4 e5 e6 ho ty hstep
      obtain ⟨on, x, y, vx, vy, cool, score⟩ := s
      simp only [Gm.Ship.cells, List.getElem?_cons_zero, List.getElem?_cons_succ, Nat.add_zero] at e0 e1 e2 e3 e4 e5 e6
      obtain ⟨o0, o1, o2, o3, o4, o5, o6, o7, o8⟩ := ho
      obtain ⟨tx, ty, tvx, tvy, _, _⟩ := ty
      unfold Gm.i32 at tx ty tvx tvy
      dsimp only at tx ty tvx tvy o0 o5 o6 o7 o8
      generalize Im.bytesOf 4 g.frame ++ Im.bytesOf 8 g.dice ++ Im.ships g.ship k = pre at *
      obtain ⟨s0, hs0⟩ : ∃ s, s = strOfNums pre := ⟨_, rfl⟩
      have ltP := PB.out.lt
      rw [← hs0]
      clear hb hsl e
      cases on
      · have hne : (⟨false, x, y, vx, vy, cool, score⟩ : Gm.Ship) = Gm.Ship.none := by
          rcases o0 with o0 | o0
          · cases o0
          · exact o0
        obtain ⟨t1, ht1, ha1, hc1⟩ := str_sum (y := ⟨#[0]⟩) (b := [0]) hs0 rfl rfl (by show pre.length + 1 ≤ _; omega)
        have HE := Lib.hid (show .string t1 = Value.string (strOfNums (Im.bytesOf 4 g.frame ++ Im.bytesOf 8 g.dice ++ Im.ships g.ship (k + 1))) by
          rw [hstep, hne, ht1]
          show _ = Value.string (strOfNums (pre ++ Im.bytesOf 1 0))
          rw [Im.bytes10])
        clear hs0 ht1 hne hstep o0 o1 o2 o3 o4
        go_wp2
        go_roundw
        case rel => exact ⟨k + 1, by omega, by go_num, HE.out, HB.out.alloc HB.out.size _⟩
        case measure => simp [intOf]; omega
      · obtain ⟨qa, hqa⟩ : ∃ s, s = strOfNums (Im.bytesOf 4 (IntKind.u64.wrap x)) := ⟨_, rfl⟩
        obtain ⟨qb, hqb⟩ : ∃ s, s = strOfNums (Im.bytesOf 4 (IntKind.u64.wrap y)) := ⟨_, rfl⟩
        obtain ⟨qc, hqc⟩ : ∃ s, s = strOfNums (Im.bytesOf 4 (IntKind.u64.wrap vx)) := ⟨_, rfl⟩
        obtain ⟨qd, hqd⟩ : ∃ s, s = strOfNums (Im.bytesOf 4 (IntKind.u64.wrap vy)) := ⟨_, rfl⟩
        obtain ⟨qe, hqe⟩ : ∃ s, s = strOfNums (Im.bytesOf 1 cool) := ⟨_, rfl⟩
        obtain ⟨qf, hqf⟩ : ∃ s, s = strOfNums (Im.bytesOf 4 score) := ⟨_, rfl⟩
        obtain ⟨t1, ht1, ha1, hc1⟩ := str_sum (y := ⟨#[1]⟩) (b := [1]) hs0 rfl rfl (by simp only [List.length_append, Im.bytesOf_len, List.length_cons, List.length_nil]; omega)
        obtain ⟨t2, ht2, ha2, hc2⟩ := str_sum ht1 hqa rfl (by simp only [List.length_append, Im.bytesOf_len, List.length_cons, List.length_nil]; omega)
        obtain ⟨t3, ht3, ha3, hc3⟩ := str_sum ht2 hqb rfl (by simp only [List.length_append, Im.bytesOf_len, List.length_cons, List.length_nil]; omega)
        obtain ⟨t4, ht4, ha4, hc4⟩ := str_sum ht3 hqc rfl (by simp only [List.length_append, Im.bytesOf_len, List.length_cons, List.length_nil]; omega)
        obtain ⟨t5, ht5, ha5, hc5⟩ := str_sum ht4 hqd rfl (by simp only [List.length_append, Im.bytesOf_len, List.length_cons, List.length_nil]; omega)
        obtain ⟨t6, ht6, ha6, hc6⟩ := str_sum ht5 hqe rfl (by simp only [List.length_append, Im.bytesOf_len, List.length_cons, List.length_nil]; omega)
        obtain ⟨t7, ht7, ha7, hc7⟩ := str_sum ht6 hqf rfl (by simp only [List.length_append, Im.bytesOf_len, List.length_cons, List.length_nil]; omega)
        have HE := Lib.hid (show .string t7 = Value.string (strOfNums (Im.bytesOf 4 g.frame ++ Im.bytesOf 8 g.dice ++ Im.ships g.ship (k + 1))) by
          rw [hstep, Im.ship_on, ht7]
          simp only [List.append_assoc])
        have hw1 : IntKind.u64.wrap cool = cool := by rw [IntKind.wrap_u64]; omega
        have hw2 : IntKind.u64.wrap score = score := by rw [IntKind.wrap_u64]; omega
        have cxa := fun X => Lib.hid (refour_any x X tx)
        have cxb := fun X => Lib.hid (refour_any y X ty)
        have cxc := fun X => Lib.hid (refour_any vx X tvx)
        have cxd := fun X => Lib.hid (refour_any vy X tvy)
        have cne := fun X => Lib.hid (refput_num 1 1 cool rfl X (by decide) ⟨by omega, by omega⟩)
        have cnf := fun X => Lib.hid (refput_num 4 4 score rfl X (by decide) ⟨by omega, by omega⟩)
        rw [← hqa] at cxa; rw [← hqb] at cxb; rw [← hqc] at cxc; rw [← hqd] at cxd; rw [← hqe] at cne; rw [← hqf] at cnf
        clear hs0 hqa hqb hqc hqd hqe hqf ht1 ht2 ht3 ht4 ht5 ht6 ht7 hstep o0 o1 o2 o3 o4
        go_upto_region 8 with fail
        have Q1 := Lib.hid (Box.made wr 26 #[.bool true, .int .i32 x, .int .i32 y, .int .i32 vx, .int .i32 vy, .int .i64 cool, .int .i64 score])
        have K2 := Lib.hid (HB.out.alloc HB.out.size (.cells #[.bool true, .int .i32 x, .int .i32 y, .int .i32 vx, .int .i32 vy, .int .i64 cool, .int .i64 score] 26))
        generalize hW1 : wr.alloc (.cells #[.bool true, .int .i32 x, .int .i32 y, .int .i32 vx, .int .i32 vy, .int .i64 cool, .int .i64 score] 26) = W1 at *
        clear hW1 e0 e1 e2 e3 e4 e5 e6
        have y1 : ∀ q : Ext W1.heap.size W1, q.w.cell? ⟨wr.heap.size, 1, none⟩ = some (.int .i32 x) := fun q => q.cell Q1.out.lt (Q1.out.cell 1)
        have y2 : ∀ q : Ext W1.heap.size W1, q.w.cell? ⟨wr.heap.size, 2, none⟩ = some (.int .i32 y) := fun q => q.cell Q1.out.lt (Q1.out.cell 2)
        have y3 : ∀ q : Ext W1.heap.size W1, q.w.cell? ⟨wr.heap.size, 3, none⟩ = some (.int .i32 vx) := fun q => q.cell Q1.out.lt (Q1.out.cell 3)
        have y4 : ∀ q : Ext W1.heap.size W1, q.w.cell? ⟨wr.heap.size, 4, none⟩ = some (.int .i32 vy) := fun q => q.cell Q1.out.lt (Q1.out.cell 4)
        have y5 : ∀ q : Ext W1.heap.size W1, q.w.cell? ⟨wr.heap.size, 5, none⟩ = some (.int .i64 cool) := fun q => q.cell Q1.out.lt (Q1.out.cell 5)
        have y6 : ∀ q : Ext W1.heap.size W1, q.w.cell? ⟨wr.heap.size, 6, none⟩ = some (.int .i64 score) := fun q => q.cell Q1.out.lt (Q1.out.cell 6)
        refine wp_region_ext W1.heap.size W1 (by kernel_rfl) (by kernel_rfl) (Below.refl _ _) ?_
        repeat (first | go_big_quiet_step (first | (go_at_call 81; first | with_reducible exact Calls.ext_of (Nat.le_refl _) (cne _).out | with_reducible exact Calls.ext_of (Nat.le_refl _) (cnf _).out) | (go_at_call 82; first | with_reducible exact Calls.ext_of (Nat.le_refl _) (cxa _).out | with_reducible exact Calls.ext_of (Nat.le_refl _) (cxb _).out | with_reducible exact Calls.ext_of (Nat.le_refl _) (cxc _).out | with_reducible exact Calls.ext_of (Nat.le_refl _) (cxd _).out)))
        refine wpQuiet_nil ?_
        intro _ hw'
        obtain ⟨q1, hw''⟩ := hw'
        subst hw''
        have K3 := Lib.hid (K2.out.trans (q1.h.mono K2.out.size))
        clear y1 y2 y3 y4 y5 y6 cxa cxb cxc cxd cne cnf
        go_wp2
        go_roundw
        case rel => exact ⟨k + 1, by omega, by go_num, HE.out, K3.out⟩
        case measure => simp [intOf]; omega
    · have hk8 : ¬ (k : Int) < 8 := by omega
      obtain rfl : k = 8 := by omega
      have e58 := (PB.out.cell 58).trans ((Im.cells_g _ _ _ 58 (by omega)).trans (Gm.cells_58 _ _))
      have HPR := Lib.hid (show Im.put g r = Im.bytesOf 4 g.frame ++ Im.bytesOf 8 g.dice ++ Im.ships g.ship 8 ++ Im.bytesOf 1 (n : Int) ++ Im.shots g.shots ++ Im.bytesOf 4 r.version ++ Im.seats r 8 from HP.out)
      generalize Im.bytesOf 4 g.frame ++ Im.bytesOf 8 g.dice ++ Im.ships g.ship 8 = pre at *
      obtain ⟨s0, hs0⟩ : ∃ s, s = strOfNums pre := ⟨_, rfl⟩
      obtain ⟨qa, hqa⟩ : ∃ s, s = strOfNums (Im.bytesOf 1 (n : Int)) := ⟨_, rfl⟩
      obtain ⟨t1, ht1, ha1, hc1⟩ := str_sum hs0 hqa rfl (by rw [Im.bytesOf_len]; omega)
      have cn := fun X => Lib.hid (refput_num 1 1 (n : Int) rfl X (by decide) ⟨by omega, by omega⟩)
      rw [← hqa] at cn
      rw [← hs0]
      have HT1 := Lib.hid ht1
      have KB := Lib.hid (K0.out.trans (HB.out.mono K0.out.size))
      clear hs0 hqa ht1 hb hsl
      go_wp2_with (go_at_call 81; ((with_reducible refine ((cn _).out).mono ?_); rintro e w3 ⟨rfl, hb⟩; have P3 := Lib.hid (PB.out.below hb PB.out.lt); have K3 := Lib.hid (KB.out.trans (hb.mono KB.out.size)); clear hb))
      have hplen : (pre ++ Im.bytesOf 1 (n : Int)).length ≤ 200 := by rw [List.length_append, Im.bytesOf_len]; omega
      rw [HT1.out]
      go_loopw [3, 6] (fun sv i wq => ∃ k : Nat, k ≤ n ∧ i = .int .i64 k ∧ sv = .string (strOfNums (pre ++ Im.bytesOf 1 (n : Int) ++ Im.shots (g.shots.take k))) ∧ Box wq w.heap.size 53 (Im.cells g (.slice A n c) r) ∧ Below w.heap.size w wq) (fun _ i _ => n - (intOf i).toNat)
      case atStart => exact ⟨0, by omega, rfl, by simp [Im.shots], P3.out, K3.out⟩
      case round =>
        obtain ⟨k, hk, rfl, rfl, hB, hb⟩ := hrel
        clear e58
        have e58 := (hB.cell 58).trans ((Im.cells_g _ _ _ 58 (by omega)).trans (Gm.cells_58 _ _))
        have HB2 := Lib.hid hB
        have HBB := Lib.hid hb
        clear PB HB KB P3 K3
        by_cases hlt : k < n
        · have hk8 : (k : Int) < n := by omega
          have hkl : k < g.shots.length := by have := HN.out; omega
          obtain ⟨ad, rfl, hbl, e0, e1, e2, e3, e4, e5⟩ := shots_at ((hr1.out.below hb)) HN.out k hkl
          have hsn := Im.shots_snoc g.shots k hkl
          have ho := hshots k hkl
          have ty := ho.ty
          have hshl := Im.shots_len (g.shots.take k)
          rw [List.length_take] at hshl
          generalize hv : g.shots[k] = v at e0 e1 e2 e3 e4 e5 hsn ho ty
          obtain ⟨owner, x, y, vx, vy, left⟩ := v
          obtain ⟨o1, o2, _, _, _, _, o7, o8⟩ := ho
          obtain ⟨_, tx, ty, tvx, tvy, _⟩ := ty
          unfold Gm.i32 at tx ty tvx tvy
          dsimp only at e0 e1 e2 e3 e4 e5 o1 o2 o7 o8 tx ty tvx tvy
          have sz := hb.size
          have ltA : ad.block < wr.heap.size := Nat.lt_of_lt_of_le hbl hb.size
          have ltP := hB.lt
          have hlen2 : (pre ++ Im.bytesOf 1 (n : Int) ++ Im.shots (g.shots.take k)).length ≤ 200 + 18 * k := by rw [List.length_append]; omega
          have hpre : pre ++ Im.bytesOf 1 (n : Int) ++ Im.shots (g.shots.take (k + 1)) = pre ++ Im.bytesOf 1 (n : Int) ++ Im.shots (g.shots.take k) ++ Im.shot ⟨owner, x, y, vx, vy, left⟩ := by
            rw [hsn]; simp only [List.append_assoc]
          generalize hp2 : pre ++ Im.bytesOf 1 (n : Int) ++ Im.shots (g.shots.take k) = pr2 at *
          obtain ⟨s0, hs0⟩ : ∃ s, s = strOfNums pr2 := ⟨_, rfl⟩
          rw [← hs0]
          obtain ⟨qo, hqo⟩ : ∃ s, s = strOfNums (Im.bytesOf 1 owner) := ⟨_, rfl⟩
          obtain ⟨qa, hqa⟩ : ∃ s, s = strOfNums (Im.bytesOf 4 (IntKind.u64.wrap x)) := ⟨_, rfl⟩
          obtain ⟨qb, hqb⟩ : ∃ s, s = strOfNums (Im.bytesOf 4 (IntKind.u64.wrap y)) := ⟨_, rfl⟩
          obtain ⟨qc, hqc⟩ : ∃ s, s = strOfNums (Im.bytesOf 4 (IntKind.u64.wrap vx)) := ⟨_, rfl⟩
          obtain ⟨qd, hqd⟩ : ∃ s, s = strOfNums (Im.bytesOf 4 (IntKind.u64.wrap vy)) := ⟨_, rfl⟩
          obtain ⟨qf, hqf⟩ : ∃ s, s = strOfNums (Im.bytesOf 1 left) := ⟨_, rfl⟩
          obtain ⟨t1, ht1, ha1, hc1⟩ := str_sum hs0 hqo rfl (by simp only [List.length_append, Im.bytesOf_len, List.length_cons, List.length_nil]; omega)
          obtain ⟨t2, ht2, ha2, hc2⟩ := str_sum ht1 hqa rfl (by simp only [List.length_append, Im.bytesOf_len, List.length_cons, List.length_nil]; omega)
          obtain ⟨t3, ht3, ha3, hc3⟩ := str_sum ht2 hqb rfl (by simp only [List.length_append, Im.bytesOf_len, List.length_cons, List.length_nil]; omega)
          obtain ⟨t4, ht4, ha4, hc4⟩ := str_sum ht3 hqc rfl (by simp only [List.length_append, Im.bytesOf_len, List.length_cons, List.length_nil]; omega)
          obtain ⟨t5, ht5, ha5, hc5⟩ := str_sum ht4 hqd rfl (by simp only [List.length_append, Im.bytesOf_len, List.length_cons, List.length_nil]; omega)
          obtain ⟨t6, ht6, ha6, hc6⟩ := str_sum ht5 hqf rfl (by simp only [List.length_append, Im.bytesOf_len, List.length_cons, List.length_nil]; omega)
          have HE := Lib.hid (show .string t6 = Value.string (strOfNums (pre ++ Im.bytesOf 1 (n : Int) ++ Im.shots (g.shots.take (k + 1)))) by
            rw [hpre, Im.shot_is, ht6]
            simp only [List.append_assoc])
          have hw1 : IntKind.u64.wrap owner = owner := by rw [IntKind.wrap_u64]; omega
          have hw2 : IntKind.u64.wrap left = left := by rw [IntKind.wrap_u64]; omega
          have cno := fun X => Lib.hid (refput_num 1 1 owner rfl X (by decide) ⟨by omega, by omega⟩)
          have cxa := fun X => Lib.hid (refour_any x X tx)
          have cxb := fun X => Lib.hid (refour_any y X ty)
          have cxc := fun X => Lib.hid (refour_any vx X tvx)
          have cxd := fun X => Lib.hid (refour_any vy X tvy)
          have cnf := fun X => Lib.hid (refput_num 1 1 left rfl X (by decide) ⟨by omega, by omega⟩)
          rw [← hqo] at cno; rw [← hqa] at cxa; rw [← hqb] at cxb; rw [← hqc] at cxc; rw [← hqd] at cxd; rw [← hqf] at cnf
          clear hs0 hqo hqa hqb hqc hqd hqf ht1 ht2 ht3 ht4 ht5 ht6 hpre hsn hv hb hB hp2 hshl
          go_upto_region 14 with fail
          have Q1 := Lib.hid (Box.made wr 108 #[.int .i64 owner, .int .i32 x, .int .i32 y, .int .i32 vx, .int .i32 vy, .int .i64 left])
          have K2 := Lib.hid (HBB.out.alloc HBB.out.size (.cells #[.int .i64 owner, .int .i32 x, .int .i32 y, .int .i32 vx, .int .i32 vy, .int .i64 left] 108))
          have P2 := Lib.hid (HB2.out.alloc (.cells #[.int .i64 owner, .int .i32 x, .int .i32 y, .int .i32 vx, .int .i32 vy, .int .i64 left] 108))
          generalize hW1 : wr.alloc (.cells #[.int .i64 owner, .int .i32 x, .int .i32 y, .int .i32 vx, .int .i32 vy, .int .i64 left] 108) = W1 at *
          clear hW1 e0 e1 e2 e3 e4 e5 e58
          have y0 : ∀ q : Ext W1.heap.size W1, q.w.cell? ⟨wr.heap.size, 0, none⟩ = some (.int .i64 owner) := fun q => q.cell Q1.out.lt (Q1.out.cell 0)
          have y1 : ∀ q : Ext W1.heap.size W1, q.w.cell? ⟨wr.heap.size, 1, none⟩ = some (.int .i32 x) := fun q => q.cell Q1.out.lt (Q1.out.cell 1)
          have y2 : ∀ q : Ext W1.heap.size W1, q.w.cell? ⟨wr.heap.size, 2, none⟩ = some (.int .i32 y) := fun q => q.cell Q1.out.lt (Q1.out.cell 2)
          have y3 : ∀ q : Ext W1.heap.size W1, q.w.cell? ⟨wr.heap.size, 3, none⟩ = some (.int .i32 vx) := fun q => q.cell Q1.out.lt (Q1.out.cell 3)
          have y4 : ∀ q : Ext W1.heap.size W1, q.w.cell? ⟨wr.heap.size, 4, none⟩ = some (.int .i32 vy) := fun q => q.cell Q1.out.lt (Q1.out.cell 4)
          have y5 : ∀ q : Ext W1.heap.size W1, q.w.cell? ⟨wr.heap.size, 5, none⟩ = some (.int .i64 left) := fun q => q.cell Q1.out.lt (Q1.out.cell 5)
          refine wp_region_ext W1.heap.size W1 (by kernel_rfl) (by kernel_rfl) (Below.refl _ _) ?_
          repeat (first | go_big_quiet_step (first | (go_at_call 81; first | with_reducible exact Calls.ext_of (Nat.le_refl _) (cno _).out | with_reducible exact Calls.ext_of (Nat.le_refl _) (cnf _).out) | (go_at_call 82; first | with_reducible exact Calls.ext_of (Nat.le_refl _) (cxa _).out | with_reducible exact Calls.ext_of (Nat.le_refl _) (cxb _).out | with_reducible exact Calls.ext_of (Nat.le_refl _) (cxc _).out | with_reducible exact Calls.ext_of (Nat.le_refl _) (cxd _).out)))
          refine wpQuiet_nil ?_
          intro _ hw'
          obtain ⟨q1, hw''⟩ := hw'
          subst hw''
          have K3 := Lib.hid (K2.out.trans (q1.h.mono K2.out.size))
          have P3 := Lib.hid (P2.out.below q1.h P2.out.lt)
          clear y0 y1 y2 y3 y4 y5 cno cxa cxb cxc cxd cnf
          go_wp2
          go_roundw
          case rel => exact ⟨k + 1, by omega, by go_num, HE.out, P3.out, K3.out⟩
          case measure => simp [intOf]; omega
        · have hk8 : ¬ (k : Int) < n := by omega
          obtain rfl : k = n := by omega
          have htk : g.shots.take k = g.shots := List.take_of_length_le (by have := HN.out; omega)
          rw [htk]
          have hshl := Im.shots_len g.shots
          have e59 := (hB.cell 59).trans ((Im.cells_r g (.slice A k c) r 0).trans (Ros.cells_0 _))
          have hlen2 : (pre ++ Im.bytesOf 1 (k : Int) ++ Im.shots g.shots).length ≤ 200 + 18 * 32 := by rw [List.length_append]; have := HN.out; omega
          generalize hp2 : pre ++ Im.bytesOf 1 (k : Int) ++ Im.shots g.shots = pr2 at *
          have HPR2 := Lib.hid (show Im.put g r = pr2 ++ Im.bytesOf 4 r.version ++ Im.seats r 8 by rw [HPR.out, ← hp2])
          obtain ⟨s0, hs0⟩ : ∃ s, s = strOfNums pr2 := ⟨_, rfl⟩
          obtain ⟨qa, hqa⟩ : ∃ s, s = strOfNums (Im.bytesOf 4 r.version) := ⟨_, rfl⟩
          obtain ⟨t1, ht1, ha1, hc1⟩ := str_sum hs0 hqa rfl (by rw [Im.bytesOf_len]; omega)
          have cv := fun X => Lib.hid (refput_num 4 4 r.version rfl X (by decide) ⟨by omega, by omega⟩)
          rw [← hqa] at cv
          rw [← hs0]
          have HT1 := Lib.hid ht1
          clear hs0 hqa ht1 hb hB hp2 htk hshl
          go_wp2_with (go_at_call 81; ((with_reducible refine ((cv _).out).mono ?_); rintro e w4 ⟨rfl, hb⟩; have P4 := Lib.hid (HB2.out.below hb HB2.out.lt); have K4 := Lib.hid (HBB.out.trans (hb.mono HBB.out.size)); clear hb))
          rw [HT1.out]
          go_loopw [3, 8] (fun sv i wq => ∃ j : Nat, j ≤ 8 ∧ i = .int .i64 j ∧ sv = .string (strOfNums (pr2 ++ Im.bytesOf 4 r.version ++ Im.seats r j)) ∧ Box wq w.heap.size 53 (Im.cells g (.slice A k c) r) ∧ Below w.heap.size w wq) (fun _ i _ => 8 - (intOf i).toNat)
          case atStart => exact ⟨0, by omega, rfl, by simp [Im.seats], P4.out, K4.out⟩
          case round =>
            obtain ⟨j, hj, rfl, rfl, hB, hb⟩ := hrel
            have HB3 := Lib.hid hB
            have HBB3 := Lib.hid hb
            clear P4 K4 HB2 HBB e59 e58
            by_cases hlt8 : j < 8
            · have hj8 : (j : Int) < 8 := by omega
              have hse := hseats j hlt8
              unfold Ros.OkSeat at hse
              have hsl := Im.seats_len r j
              have hlen3 : (pr2 ++ Im.bytesOf 4 r.version ++ Im.seats r j).length ≤ 1000 := by rw [List.length_append, List.length_append, Im.bytesOf_len]; omega
              have hpre : pr2 ++ Im.bytesOf 4 r.version ++ Im.seats r (j + 1) = pr2 ++ Im.bytesOf 4 r.version ++ Im.seats r j ++ (Im.bytesOf 1 (r.peer j + 1) ++ Im.bytesOf 2 (r.gen j)) := by
                show pr2 ++ Im.bytesOf 4 r.version ++ (Im.seats r j ++ (Im.bytesOf 1 (r.peer j + 1) ++ Im.bytesOf 2 (r.gen j))) = _
                simp only [List.append_assoc]
              have ep := (hB.cell (60 + j * 2)).trans (Im.cells_peer g (.slice A k c) r j hlt8)
              have eg := (hB.cell (60 + j * 2 + 1)).trans (Im.cells_gen g (.slice A k c) r j hlt8)
              generalize r.peer j = pe at *
              generalize r.gen j = ge at *
              generalize hp3 : pr2 ++ Im.bytesOf 4 r.version ++ Im.seats r j = pr3 at *
              obtain ⟨s0, hs0⟩ : ∃ s, s = strOfNums pr3 := ⟨_, rfl⟩
              rw [← hs0]
              obtain ⟨qa, hqa⟩ : ∃ s, s = strOfNums (Im.bytesOf 1 (pe + 1)) := ⟨_, rfl⟩
              obtain ⟨qb, hqb⟩ : ∃ s, s = strOfNums (Im.bytesOf 2 ge) := ⟨_, rfl⟩
              obtain ⟨t1, ht1, ha1, hc1⟩ := str_sum hs0 hqa rfl (by simp only [List.length_append, Im.bytesOf_len, List.length_cons, List.length_nil]; omega)
              obtain ⟨t2, ht2, ha2, hc2⟩ := str_sum ht1 hqb rfl (by simp only [List.length_append, Im.bytesOf_len, List.length_cons, List.length_nil]; omega)
              have HE := Lib.hid (show .string t2 = Value.string (strOfNums (pr2 ++ Im.bytesOf 4 r.version ++ Im.seats r (j + 1))) by
                rw [hpre, ht2]
                simp only [List.append_assoc])
              have hw0 : IntKind.i64.wrap (pe + 1) = pe + 1 := by rw [IntKind.wrap_i64]; omega
              have hw1 : IntKind.u64.wrap (pe + 1) = pe + 1 := by rw [IntKind.wrap_u64]; omega
              have hw2 : IntKind.u64.wrap ge = ge := by rw [IntKind.wrap_u64]; omega
              have cnp := fun X => Lib.hid (refput_num 1 1 (pe + 1) rfl X (by decide) ⟨by omega, by omega⟩)
              have cng := fun X => Lib.hid (refput_num 2 2 ge rfl X (by decide) ⟨by omega, by omega⟩)
              rw [← hqa] at cnp; rw [← hqb] at cng
              have zp : ∀ q : Ext wr.heap.size wr, q.w.cell? ⟨w.heap.size, 60 + j * 2, none⟩ = some (.int .i64 pe) := fun q => q.cell HB3.out.lt ep
              have zg : ∀ q : Ext wr.heap.size wr, q.w.cell? ⟨w.heap.size, 60 + j * 2 + 1, none⟩ = some (.int .i64 ge) := fun q => q.cell HB3.out.lt eg
              clear hs0 hqa hqb ht1 ht2 hpre hb hB hp3 hsl ep eg
              go_upto_region 19 with fail
              refine wp_region_ext wr.heap.size wr (by kernel_rfl) (by kernel_rfl) (Below.refl _ _) ?_
              repeat (first | go_big_quiet_step ((go_at_call 81; first | with_reducible exact Calls.ext_of (Nat.le_refl _) (cnp _).out | with_reducible exact Calls.ext_of (Nat.le_refl _) (cng _).out)))
              refine wpQuiet_nil ?_
              intro _ hw'
              obtain ⟨q1, hw''⟩ := hw'
              subst hw''
              have K5 := Lib.hid (HBB3.out.trans (q1.h.mono HBB3.out.size))
              have P5 := Lib.hid (HB3.out.below q1.h HB3.out.lt)
              clear zp zg cnp cng
              go_wp2
              go_roundw
              case rel => exact ⟨j + 1, by omega, by go_num, HE.out, P5.out, K5.out⟩
              case measure => simp [intOf]; omega
            · have hj8 : ¬ (j : Int) < 8 := by omega
              obtain rfl : j = 8 := by omega
              have HE := Lib.hid (show strOfNums (pr2 ++ Im.bytesOf 4 r.version ++ Im.seats r 8) = strOfNums (Im.put g r) by rw [HPR2.out])
              rw [HE.out]
              clear hb hB
              go_wp2
              go_ret
              exact ⟨rfl, HBB3.out⟩
end Go.Proofs.Ytbihnmingedgfaa

/-
The document's answer of layer 6: which games may be, of whatever games.
-/


namespace Go.Proofs.Ytbihnmingedgfaa
open Go.RowKit
set_option linter.unusedVariables false
set_option linter.unusedSimpArgs false

theorem ship_neq (s t : Gm.Ship) (w : World) : (binOp .neq 26 (.agg s.cells.toArray) (.agg t.cells.toArray)).run Try.prog w = .ok (.bool (!s.eqB t)) w := by
  simp only [binOp]
  simp [Op.equal, Op.maxDepth, ship_eq']

set_option maxRecDepth 100000 in
set_option maxHeartbeats 16000000 in
theorem refmay_any (g : Gm.G) (A : Option Addr) (n c : Nat) (w : World) (hty : Gm.ty g) (hn : n = g.shots.length) (hn63 : n ≤ maxLen) (hr : Lies w w.heap.size 6 A n (Gm.shotCells g.shots)) :
    Calls Try.prog 56 #[.agg (Gm.cells g (.slice A n c))] w fun e w' => (∃ v, e = .returned (.bool v) ∧ (v = true ↔ Gm.ok g)) ∧ Below w.heap.size w w' := by
  have hN : Hid (n = g.shots.length) := Lib.hid hn
  have n63 : (n : Int) ≤ 9223372036854775807 := by unfold maxLen at hn63; omega
  have hc : ∀ W : World, ∀ j, (W.alloc (.cells (Gm.cells g (.slice A n c)) 30)).cell? ⟨W.heap.size, j, none⟩ = (Gm.cells g (.slice A n c))[j]? := fun W j => (Box.made W _ _).cell j
  have h0 := Gm.cells_0 g (.slice A n c)
  have h58 := Gm.cells_58 g (.slice A n c)
  clear hn hn63
  by_cases hf : g.frame < 0
  · have d1 : decide (g.frame < 0) = true := decide_eq_true hf
    have hno := Lib.hid (show ¬ Gm.ok g from fun h => by have := h.1; omega)
    clear hr hf hty
    go_enter Try.func56, Try.ntmps56
    go_wp2
    go_ret
    exact ⟨by first | exact ⟨false, rfl, by simp; exact hno.out⟩ | exact .inl ⟨rfl, hno.out⟩, one_below _ _⟩
  have d1 : decide (g.frame < 0) = false := decide_eq_false hf
  by_cases hf2 : 1048576 < g.frame
  · have d2 : decide (1048576 < g.frame) = true := decide_eq_true hf2
    have hno := Lib.hid (show ¬ Gm.ok g from fun h => by have := h.2.1; omega)
    clear hr hf hf2 hty
    go_enter Try.func56, Try.ntmps56
    go_wp2
    go_ret
    exact ⟨by first | exact ⟨false, rfl, by simp; exact hno.out⟩ | exact .inl ⟨rfl, hno.out⟩, one_below _ _⟩
  have d2 : decide (1048576 < g.frame) = false := decide_eq_false hf2
  by_cases hf3 : 32 < (n : Int)
  · have d3 : decide (32 < (n : Int)) = true := decide_eq_true hf3
    have hno := Lib.hid (show ¬ Gm.ok g from fun h => by have := h.2.2.1; have := hN.out; omega)
    clear hr hf hf2 hf3 hty
    go_enter Try.func56, Try.ntmps56
    go_wp2
    go_ret
    exact ⟨by first | exact ⟨false, rfl, by simp; exact hno.out⟩ | exact .inl ⟨rfl, hno.out⟩, one_below _ _⟩
  have d3 : decide (32 < (n : Int)) = false := decide_eq_false hf3
  have HF := Lib.hid (show 0 ≤ g.frame ∧ g.frame ≤ 1048576 ∧ g.shots.length ≤ 32 from ⟨by omega, by omega, by have := hN.out; omega⟩)
  obtain ⟨_, _, hships, hshots⟩ := hty
  clear hf hf2 hf3
  go_enter Try.func56, Try.ntmps56
  go_wp2
  go_loopw [3] (fun i wr => ∃ k : Nat, k ≤ 8 ∧ i = .int .i64 k ∧ Box wr w.heap.size 30 (Gm.cells g (.slice A n c)) ∧ Below w.heap.size w wr ∧ ∀ j, j < k → Gm.okShip (g.ship j)) (fun i _ => 8 - (intOf i).toNat)
  case atStart => exact ⟨0, by omega, rfl, Box.made _ _ _, one_below _ _, fun j hj => absurd hj (Nat.not_lt_zero j)⟩
  case round =>
    obtain ⟨k, hk, rfl, hB, hb, hall⟩ := hrel
    have HALL := Lib.hid hall
    clear hall
    by_cases hlt : k < 8
    · have hcr := hB.cell
      have hlB := hB.lt
      have e0 := cells_at hcr hlt 0 (by omega)
      have e1 := cells_at hcr hlt 1 (by omega)
      have e2 := cells_at hcr hlt 2 (by omega)
      have e3 := cells_at hcr hlt 3 (by omega)
      have e4 := cells_at hcr hlt 4 (by omega)
      have e5 := cells_at hcr hlt 5 (by omega)
      have e6 := cells_at hcr hlt 6 (by omega)
      have ty := hships k hlt
      have HS := Lib.hid (show Gm.ok g → Gm.okShip (g.ship k) from fun h => h.2.2.2.1 k hlt)
      have HZ := Lib.hid (show Gm.okShip (g.ship k) → ∀ j, j < k + 1 → Gm.okShip (g.ship j) from fun h j hj => by
        by_cases e : j = k
        · rw [e]; exact h
        · exact HALL.out j (by omega))
      generalize g.ship k = s at e0 e1 e2 e3 e4 e5 e6 ty HS HZ
      obtain ⟨on, x, y, vx, vy, cool, score⟩ := s
      simp only [Gm.Ship.cells, List.getElem?_cons_zero, List.getElem?_cons_succ, Nat.add_zero] at e0 e1 e2 e3 e4 e5 e6
      obtain ⟨tx, ty, tvx, tvy, tc, ts⟩ := ty
      unfold Gm.i32 Gm.i64 at *
      dsimp only at tx ty tvx tvy tc ts
      have hk8 : (k : Int) < 8 := by omega
      have HB := Lib.hid hB
      have HBB := Lib.hid hb
      clear hc hcr hships hshots h0 h58 d1 d2 d3 hB hb
      cases on
      · by_cases hz : (⟨false, x, y, vx, vy, cool, score⟩ : Gm.Ship) = Gm.Ship.none
        · have ho := Lib.hid (HZ.out (by rw [hz]; refine ⟨.inr rfl, ?_, ?_, ?_, ?_, ?_, ?_, ?_, ?_⟩ <;> simp [Gm.Ship.none, Gm.inF, Gm.slow]))
          injection hz with z1 z2 z3 z4 z5 z6 z7
          subst z2 z3 z4 z5 z6 z7
          clear HS HZ tx ty tvx tvy tc ts
          go_wp2
          go_roundw
          case rel => exact ⟨k + 1, by omega, by go_num, HB.out.alloc _, HBB.out.alloc (Nat.le_of_lt hlB) _, ho.out⟩
          case measure => simp [intOf]; omega
        · have he := fun W => ship_neq ⟨false, x, y, vx, vy, cool, score⟩ Gm.Ship.none W
          rw [show (⟨false, x, y, vx, vy, cool, score⟩ : Gm.Ship).eqB Gm.Ship.none = false by
            cases hq : (⟨false, x, y, vx, vy, cool, score⟩ : Gm.Ship).eqB Gm.Ship.none
            · rfl
            · exact absurd (Gm.Ship.eqB_iff.1 hq) hz] at he
          simp only [Gm.Ship.cells, Gm.Ship.none, Bool.not_false] at he
          have hno := Lib.hid (show ¬ Gm.ok g from fun h => (HS.out h).1.elim (fun hh => absurd hh (by simp)) hz)
          clear HS HZ hz tx ty tvx tvy tc ts
          go_wp2
          go_ret
          exact ⟨by first | exact ⟨false, rfl, by simp; exact hno.out⟩ | exact .inl ⟨rfl, hno.out⟩, HBB.out.alloc (Nat.le_of_lt hlB) _⟩
      · skip
        have cx := fun X => Lib.hid (refin_any x tx X)
        have cy := fun X => Lib.hid (refin_any y ty X)
        have cvx := fun X => Lib.hid (refslow_any vx 524288 tvx (by omega) X)
        have cvy := fun X => Lib.hid (refslow_any vy 524288 tvy (by omega) X)
        obtain ⟨bx, hx⟩ : ∃ b, b = (decide (0 ≤ x) && decide (x < 16777216)) := ⟨_, rfl⟩
        obtain ⟨b_y, hy⟩ : ∃ b, b = (decide (0 ≤ y) && decide (y < 16777216)) := ⟨_, rfl⟩
        obtain ⟨bvx, hvx⟩ : ∃ b, b = (decide (-524288 ≤ vx) && decide (vx ≤ 524288)) := ⟨_, rfl⟩
        obtain ⟨bvy, hvy⟩ : ∃ b, b = (decide (-524288 ≤ vy) && decide (vy ≤ 524288)) := ⟨_, rfl⟩
        rw [← hx] at cx; rw [← hy] at cy; rw [← hvx] at cvx; rw [← hvy] at cvy
        have HX := Lib.hid (show bx = true ↔ Gm.inF x by rw [hx]; unfold Gm.inF; simp)
        have HY := Lib.hid (show b_y = true ↔ Gm.inF y by rw [hy]; unfold Gm.inF; simp)
        have HVX := Lib.hid (show bvx = true ↔ Gm.slow vx 524288 by rw [hvx]; unfold Gm.slow; simp)
        have HVY := Lib.hid (show bvy = true ↔ Gm.slow vy 524288 by rw [hvy]; unfold Gm.slow; simp)
        have HO := Lib.hid (show Gm.ok g → bx = true ∧ b_y = true ∧ bvx = true ∧ bvy = true ∧ 0 ≤ cool ∧ cool ≤ 10 ∧ 0 ≤ score ∧ score ≤ 1073741824 from fun h => by obtain ⟨_, h1, h2, h3, h4, h5, h6, h7, h8⟩ := HS.out h; exact ⟨HX.out.2 h1, HY.out.2 h2, HVX.out.2 h3, HVY.out.2 h4, h5, h6, h7, h8⟩)
        have HQ := Lib.hid (show (bx = true ∧ b_y = true ∧ bvx = true ∧ bvy = true ∧ 0 ≤ cool ∧ cool ≤ 10 ∧ 0 ≤ score ∧ score ≤ 1073741824) → ∀ j, j < k + 1 → Gm.okShip (g.ship j) from fun ⟨h1, h2, h3, h4, h5, h6, h7, h8⟩ => HZ.out ⟨.inl rfl, HX.out.1 h1, HY.out.1 h2, HVX.out.1 h3, HVY.out.1 h4, h5, h6, h7, h8⟩)
        clear hx hy hvx hvy HX HY HVX HVY HS HZ tx ty tvx tvy tc ts
        cases bx
        · have hno := Lib.hid (show ¬ Gm.ok g from fun h => by have := (HO.out h).1; simp at this)
          clear HO HQ
          go_wp2_with (first | (go_at_call 107; first | ((with_reducible refine ((cx _).out).mono ?_); rintro e v1 ⟨rfl, rfl⟩) | ((with_reducible refine ((cy _).out).mono ?_); rintro e v1 ⟨rfl, rfl⟩)) | (go_at_call 108; first | ((with_reducible refine ((cvx _).out).mono ?_); rintro e v1 ⟨rfl, rfl⟩) | ((with_reducible refine ((cvy _).out).mono ?_); rintro e v1 ⟨rfl, rfl⟩)))
          go_ret
          exact ⟨by first | exact ⟨false, rfl, by simp; exact hno.out⟩ | exact .inl ⟨rfl, hno.out⟩, HBB.out.alloc (Nat.le_of_lt hlB) _⟩
        cases b_y
        · have hno := Lib.hid (show ¬ Gm.ok g from fun h => by have := (HO.out h).2.1; simp at this)
          clear HO HQ
          go_wp2_with (first | (go_at_call 107; first | ((with_reducible refine ((cx _).out).mono ?_); rintro e v1 ⟨rfl, rfl⟩) | ((with_reducible refine ((cy _).out).mono ?_); rintro e v1 ⟨rfl, rfl⟩)) | (go_at_call 108; first | ((with_reducible refine ((cvx _).out).mono ?_); rintro e v1 ⟨rfl, rfl⟩) | ((with_reducible refine ((cvy _).out).mono ?_); rintro e v1 ⟨rfl, rfl⟩)))
          go_ret
          exact ⟨by first | exact ⟨false, rfl, by simp; exact hno.out⟩ | exact .inl ⟨rfl, hno.out⟩, HBB.out.alloc (Nat.le_of_lt hlB) _⟩
        cases bvx
        · have hno := Lib.hid (show ¬ Gm.ok g from fun h => by have := (HO.out h).2.2.1; simp at this)
          clear HO HQ
          go_wp2_with (first | (go_at_call 107; first | ((with_reducible refine ((cx _).out).mono ?_); rintro e v1 ⟨rfl, rfl⟩) | ((with_reducible refine ((cy _).out).mono ?_); rintro e v1 ⟨rfl, rfl⟩)) | (go_at_call 108; first | ((with_reducible refine ((cvx _).out).mono ?_); rintro e v1 ⟨rfl, rfl⟩) | ((with_reducible refine ((cvy _).out).mono ?_); rintro e v1 ⟨rfl, rfl⟩)))
          go_ret
          exact ⟨by first | exact ⟨false, rfl, by simp; exact hno.out⟩ | exact .inl ⟨rfl, hno.out⟩, HBB.out.alloc (Nat.le_of_lt hlB) _⟩
        cases bvy
        · have hno := Lib.hid (show ¬ Gm.ok g from fun h => by have := (HO.out h).2.2.2.1; simp at this)
          clear HO HQ
          go_wp2_with (first | (go_at_call 107; first | ((with_reducible refine ((cx _).out).mono ?_); rintro e v1 ⟨rfl, rfl⟩) | ((with_reducible refine ((cy _).out).mono ?_); rintro e v1 ⟨rfl, rfl⟩)) | (go_at_call 108; first | ((with_reducible refine ((cvx _).out).mono ?_); rintro e v1 ⟨rfl, rfl⟩) | ((with_reducible refine ((cvy _).out).mono ?_); rintro e v1 ⟨rfl, rfl⟩)))
          go_ret
          exact ⟨by first | exact ⟨false, rfl, by simp; exact hno.out⟩ | exact .inl ⟨rfl, hno.out⟩, HBB.out.alloc (Nat.le_of_lt hlB) _⟩
        by_cases q0 : cool < 0
        · have f0 : decide (cool < 0) = true := decide_eq_true q0
          have hno := Lib.hid (show ¬ Gm.ok g from fun h => by have := (HO.out h).2.2.2.2.1; omega)
          clear HO HQ q0
          go_wp2_with (first | (go_at_call 107; first | ((with_reducible refine ((cx _).out).mono ?_); rintro e v1 ⟨rfl, rfl⟩) | ((with_reducible refine ((cy _).out).mono ?_); rintro e v1 ⟨rfl, rfl⟩)) | (go_at_call 108; first | ((with_reducible refine ((cvx _).out).mono ?_); rintro e v1 ⟨rfl, rfl⟩) | ((with_reducible refine ((cvy _).out).mono ?_); rintro e v1 ⟨rfl, rfl⟩)))
          go_ret
          exact ⟨by first | exact ⟨false, rfl, by simp; exact hno.out⟩ | exact .inl ⟨rfl, hno.out⟩, HBB.out.alloc (Nat.le_of_lt hlB) _⟩
        have f0 : decide (cool < 0) = false := decide_eq_false q0
        by_cases q1 : 10 < cool
        · have f1 : decide (10 < cool) = true := decide_eq_true q1
          have hno := Lib.hid (show ¬ Gm.ok g from fun h => by have := (HO.out h).2.2.2.2.2.1; omega)
          clear HO HQ q0 q1
          go_wp2_with (first | (go_at_call 107; first | ((with_reducible refine ((cx _).out).mono ?_); rintro e v1 ⟨rfl, rfl⟩) | ((with_reducible refine ((cy _).out).mono ?_); rintro e v1 ⟨rfl, rfl⟩)) | (go_at_call 108; first | ((with_reducible refine ((cvx _).out).mono ?_); rintro e v1 ⟨rfl, rfl⟩) | ((with_reducible refine ((cvy _).out).mono ?_); rintro e v1 ⟨rfl, rfl⟩)))
          go_ret
          exact ⟨by first | exact ⟨false, rfl, by simp; exact hno.out⟩ | exact .inl ⟨rfl, hno.out⟩, HBB.out.alloc (Nat.le_of_lt hlB) _⟩
        have f1 : decide (10 < cool) = false := decide_eq_false q1
        by_cases q2 : score < 0
        · have f2 : decide (score < 0) = true := decide_eq_true q2
          have hno := Lib.hid (show ¬ Gm.ok g from fun h => by have := (HO.out h).2.2.2.2.2.2.1; omega)
          clear HO HQ q0 q1 q2
          go_wp2_with (first | (go_at_call 107; first | ((with_reducible refine ((cx _).out).mono ?_); rintro e v1 ⟨rfl, rfl⟩) | ((with_reducible refine ((cy _).out).mono ?_); rintro e v1 ⟨rfl, rfl⟩)) | (go_at_call 108; first | ((with_reducible refine ((cvx _).out).mono ?_); rintro e v1 ⟨rfl, rfl⟩) | ((with_reducible refine ((cvy _).out).mono ?_); rintro e v1 ⟨rfl, rfl⟩)))
          go_ret
          exact ⟨by first | exact ⟨false, rfl, by simp; exact hno.out⟩ | exact .inl ⟨rfl, hno.out⟩, HBB.out.alloc (Nat.le_of_lt hlB) _⟩
        have f2 : decide (score < 0) = false := decide_eq_false q2
        by_cases q3 : 1073741824 < score
        · have f3 : decide (1073741824 < score) = true := decide_eq_true q3
          have hno := Lib.hid (show ¬ Gm.ok g from fun h => by have := (HO.out h).2.2.2.2.2.2.2; omega)
          clear HO HQ q0 q1 q2 q3
          go_wp2_with (first | (go_at_call 107; first | ((with_reducible refine ((cx _).out).mono ?_); rintro e v1 ⟨rfl, rfl⟩) | ((with_reducible refine ((cy _).out).mono ?_); rintro e v1 ⟨rfl, rfl⟩)) | (go_at_call 108; first | ((with_reducible refine ((cvx _).out).mono ?_); rintro e v1 ⟨rfl, rfl⟩) | ((with_reducible refine ((cvy _).out).mono ?_); rintro e v1 ⟨rfl, rfl⟩)))
          go_ret
          exact ⟨by first | exact ⟨false, rfl, by simp; exact hno.out⟩ | exact .inl ⟨rfl, hno.out⟩, HBB.out.alloc (Nat.le_of_lt hlB) _⟩
        have f3 : decide (1073741824 < score) = false := decide_eq_false q3
        have ho := Lib.hid (HQ.out ⟨rfl, rfl, rfl, rfl, by omega, by omega, by omega, by omega⟩)
        clear HO HQ q0 q1 q2 q3
        go_wp2_with (first | (go_at_call 107; first | ((with_reducible refine ((cx _).out).mono ?_); rintro e v1 ⟨rfl, rfl⟩) | ((with_reducible refine ((cy _).out).mono ?_); rintro e v1 ⟨rfl, rfl⟩)) | (go_at_call 108; first | ((with_reducible refine ((cvx _).out).mono ?_); rintro e v1 ⟨rfl, rfl⟩) | ((with_reducible refine ((cvy _).out).mono ?_); rintro e v1 ⟨rfl, rfl⟩)))
        go_roundw
        case rel => exact ⟨k + 1, by omega, by go_num, HB.out.alloc _, HBB.out.alloc (Nat.le_of_lt hlB) _, ho.out⟩
        case measure => simp [intOf]; omega
    · have hk8 : ¬ (k : Int) < 8 := by omega
      have HA8 := Lib.hid (show ∀ j, j < 8 → Gm.okShip (g.ship j) from fun j hj => HALL.out j (by omega))
      have hcr := hB.cell
      have hlB := hB.lt
      clear hc hships h0 d1 d2 d3 HALL
      go_wp2
      go_loopw [5] (fun i wr => ∃ k : Nat, k ≤ n ∧ i = .int .i64 k ∧ Box wr w.heap.size 30 (Gm.cells g (.slice A n c)) ∧ Below w.heap.size w wr ∧ ∀ j (hj : j < g.shots.length), j < k → Gm.okShot (g.shots[j]'hj)) (fun i _ => n - (intOf i).toNat)
      case atStart => exact ⟨0, by omega, rfl, hB, hb, fun j _ hj => absurd hj (Nat.not_lt_zero j)⟩
      case round =>
        obtain ⟨m, hm, rfl, hB, hb, hall⟩ := hrel
        have HALL := Lib.hid hall
        clear hcr hlB hall
        have hcr := hB.cell
        have hlB := hB.lt
        by_cases hlt : m < n
        · have hml : m < g.shots.length := by have := hN.out; omega
          obtain ⟨ad, rfl, hbl, e0, e1, e2, e3, e4, e5⟩ := shots_at (hr.below hb) hN.out m hml
          have ty := hshots m hml
          have HS := Lib.hid (show Gm.ok g → Gm.okShot (g.shots[m]'hml) from fun h => h.2.2.2.2 m hml)
          have HZ := Lib.hid (show Gm.okShot (g.shots[m]'hml) → ∀ j (hj : j < g.shots.length), j < m + 1 → Gm.okShot (g.shots[j]'hj) from fun h j hjl hj => by
            by_cases e : j = m
            · subst e; exact h
            · exact HALL.out j hjl (by omega))
          generalize g.shots[m]'hml = s at e0 e1 e2 e3 e4 e5 ty HS HZ
          obtain ⟨owner, x, y, vx, vy, left⟩ := s
          dsimp only at e0 e1 e2 e3 e4 e5
          obtain ⟨to_, tx, ty, tvx, tvy, tl⟩ := ty
          unfold Gm.i32 Gm.i64 at *
          dsimp only at to_ tx ty tvx tvy tl
          have hmn : (m : Int) < n := by omega
          have HB := Lib.hid hB
          have HBB := Lib.hid hb
          clear hr hshots hb hB
          have cx := fun X => Lib.hid (refin_any x tx X)
          have cy := fun X => Lib.hid (refin_any y ty X)
          have cvx := fun X => Lib.hid (refslow_any vx 393216 tvx (by omega) X)
          have cvy := fun X => Lib.hid (refslow_any vy 393216 tvy (by omega) X)
          obtain ⟨bx, hx⟩ : ∃ b, b = (decide (0 ≤ x) && decide (x < 16777216)) := ⟨_, rfl⟩
          obtain ⟨b_y, hy⟩ : ∃ b, b = (decide (0 ≤ y) && decide (y < 16777216)) := ⟨_, rfl⟩
          obtain ⟨bvx, hvx⟩ : ∃ b, b = (decide (-393216 ≤ vx) && decide (vx ≤ 393216)) := ⟨_, rfl⟩
          obtain ⟨bvy, hvy⟩ : ∃ b, b = (decide (-393216 ≤ vy) && decide (vy ≤ 393216)) := ⟨_, rfl⟩
          rw [← hx] at cx; rw [← hy] at cy; rw [← hvx] at cvx; rw [← hvy] at cvy
          have HX := Lib.hid (show bx = true ↔ Gm.inF x by rw [hx]; unfold Gm.inF; simp)
          have HY := Lib.hid (show b_y = true ↔ Gm.inF y by rw [hy]; unfold Gm.inF; simp)
          have HVX := Lib.hid (show bvx = true ↔ Gm.slow vx 393216 by rw [hvx]; unfold Gm.slow; simp)
          have HVY := Lib.hid (show bvy = true ↔ Gm.slow vy 393216 by rw [hvy]; unfold Gm.slow; simp)
          have HO := Lib.hid (show Gm.ok g → bx = true ∧ b_y = true ∧ bvx = true ∧ bvy = true ∧ 0 ≤ owner ∧ owner < 8 ∧ 1 ≤ left ∧ left ≤ 24 from fun h => by obtain ⟨h5, h6, h1, h2, h3, h4, h7, h8⟩ := HS.out h; exact ⟨HX.out.2 h1, HY.out.2 h2, HVX.out.2 h3, HVY.out.2 h4, h5, h6, h7, h8⟩)
          have HQ := Lib.hid (show (bx = true ∧ b_y = true ∧ bvx = true ∧ bvy = true ∧ 0 ≤ owner ∧ owner < 8 ∧ 1 ≤ left ∧ left ≤ 24) → ∀ j (hj : j < g.shots.length), j < m + 1 → Gm.okShot (g.shots[j]'hj) from fun ⟨h1, h2, h3, h4, h5, h6, h7, h8⟩ => HZ.out ⟨h5, h6, HX.out.1 h1, HY.out.1 h2, HVX.out.1 h3, HVY.out.1 h4, h7, h8⟩)
          clear hx hy hvx hvy HX HY HVX HVY HS HZ tx ty tvx tvy to_ tl
          by_cases q0 : owner < 0
          · have f0 : decide (owner < 0) = true := decide_eq_true q0
            have hno := Lib.hid (show ¬ Gm.ok g from fun h => by have := (HO.out h).2.2.2.2.1; omega)
            clear HO HQ q0
            go_wp2_with (first | (go_at_call 107; first | ((with_reducible refine ((cx _).out).mono ?_); rintro e v1 ⟨rfl, rfl⟩) | ((with_reducible refine ((cy _).out).mono ?_); rintro e v1 ⟨rfl, rfl⟩)) | (go_at_call 108; first | ((with_reducible refine ((cvx _).out).mono ?_); rintro e v1 ⟨rfl, rfl⟩) | ((with_reducible refine ((cvy _).out).mono ?_); rintro e v1 ⟨rfl, rfl⟩)))
            go_ret
            exact ⟨by first | exact ⟨false, rfl, by simp; exact hno.out⟩ | exact .inl ⟨rfl, hno.out⟩, HBB.out.alloc (Nat.le_of_lt hlB) _⟩
          have f0 : decide (owner < 0) = false := decide_eq_false q0
          by_cases q1 : 8 ≤ owner
          · have f1 : decide (8 ≤ owner) = true := decide_eq_true q1
            have hno := Lib.hid (show ¬ Gm.ok g from fun h => by have := (HO.out h).2.2.2.2.2.1; omega)
            clear HO HQ q0 q1
            go_wp2_with (first | (go_at_call 107; first | ((with_reducible refine ((cx _).out).mono ?_); rintro e v1 ⟨rfl, rfl⟩) | ((with_reducible refine ((cy _).out).mono ?_); rintro e v1 ⟨rfl, rfl⟩)) | (go_at_call 108; first | ((with_reducible refine ((cvx _).out).mono ?_); rintro e v1 ⟨rfl, rfl⟩) | ((with_reducible refine ((cvy _).out).mono ?_); rintro e v1 ⟨rfl, rfl⟩)))
            go_ret
            exact ⟨by first | exact ⟨false, rfl, by simp; exact hno.out⟩ | exact .inl ⟨rfl, hno.out⟩, HBB.out.alloc (Nat.le_of_lt hlB) _⟩
          have f1 : decide (8 ≤ owner) = false := decide_eq_false q1
          cases bx
          · have hno := Lib.hid (show ¬ Gm.ok g from fun h => by have := (HO.out h).1; simp at this)
            clear HO HQ q0 q1
            go_wp2_with (first | (go_at_call 107; first | ((with_reducible refine ((cx _).out).mono ?_); rintro e v1 ⟨rfl, rfl⟩) | ((with_reducible refine ((cy _).out).mono ?_); rintro e v1 ⟨rfl, rfl⟩)) | (go_at_call 108; first | ((with_reducible refine ((cvx _).out).mono ?_); rintro e v1 ⟨rfl, rfl⟩) | ((with_reducible refine ((cvy _).out).mono ?_); rintro e v1 ⟨rfl, rfl⟩)))
            go_ret
            exact ⟨by first | exact ⟨false, rfl, by simp; exact hno.out⟩ | exact .inl ⟨rfl, hno.out⟩, HBB.out.alloc (Nat.le_of_lt hlB) _⟩
          cases b_y
          · have hno := Lib.hid (show ¬ Gm.ok g from fun h => by have := (HO.out h).2.1; simp at this)
            clear HO HQ q0 q1
            go_wp2_with (first | (go_at_call 107; first | ((with_reducible refine ((cx _).out).mono ?_); rintro e v1 ⟨rfl, rfl⟩) | ((with_reducible refine ((cy _).out).mono ?_); rintro e v1 ⟨rfl, rfl⟩)) | (go_at_call 108; first | ((with_reducible refine ((cvx _).out).mono ?_); rintro e v1 ⟨rfl, rfl⟩) | ((with_reducible refine ((cvy _).out).mono ?_); rintro e v1 ⟨rfl, rfl⟩)))
            go_ret
            exact ⟨by first | exact ⟨false, rfl, by simp; exact hno.out⟩ | exact .inl ⟨rfl, hno.out⟩, HBB.out.alloc (Nat.le_of_lt hlB) _⟩
          cases bvx
          · have hno := Lib.hid (show ¬ Gm.ok g from fun h => by have := (HO.out h).2.2.1; simp at this)
            clear HO HQ q0 q1
            go_wp2_with (first | (go_at_call 107; first | ((with_reducible refine ((cx _).out).mono ?_); rintro e v1 ⟨rfl, rfl⟩) | ((with_reducible refine ((cy _).out).mono ?_); rintro e v1 ⟨rfl, rfl⟩)) | (go_at_call 108; first | ((with_reducible refine ((cvx _).out).mono ?_); rintro e v1 ⟨rfl, rfl⟩) | ((with_reducible refine ((cvy _).out).mono ?_); rintro e v1 ⟨rfl, rfl⟩)))
            go_ret
            exact ⟨by first | exact ⟨false, rfl, by simp; exact hno.out⟩ | exact .inl ⟨rfl, hno.out⟩, HBB.out.alloc (Nat.le_of_lt hlB) _⟩
          cases bvy
          · have hno := Lib.hid (show ¬ Gm.ok g from fun h => by have := (HO.out h).2.2.2.1; simp at this)
            clear HO HQ q0 q1
            go_wp2_with (first | (go_at_call 107; first | ((with_reducible refine ((cx _).out).mono ?_); rintro e v1 ⟨rfl, rfl⟩) | ((with_reducible refine ((cy _).out).mono ?_); rintro e v1 ⟨rfl, rfl⟩)) | (go_at_call 108; first | ((with_reducible refine ((cvx _).out).mono ?_); rintro e v1 ⟨rfl, rfl⟩) | ((with_reducible refine ((cvy _).out).mono ?_); rintro e v1 ⟨rfl, rfl⟩)))
            go_ret
            exact ⟨by first | exact ⟨false, rfl, by simp; exact hno.out⟩ | exact .inl ⟨rfl, hno.out⟩, HBB.out.alloc (Nat.le_of_lt hlB) _⟩
          by_cases q2 : left < 1
          · have f2 : decide (left < 1) = true := decide_eq_true q2
            have hno := Lib.hid (show ¬ Gm.ok g from fun h => by have := (HO.out h).2.2.2.2.2.2.1; omega)
            clear HO HQ q0 q1 q2
            go_wp2_with (first | (go_at_call 107; first | ((with_reducible refine ((cx _).out).mono ?_); rintro e v1 ⟨rfl, rfl⟩) | ((with_reducible refine ((cy _).out).mono ?_); rintro e v1 ⟨rfl, rfl⟩)) | (go_at_call 108; first | ((with_reducible refine ((cvx _).out).mono ?_); rintro e v1 ⟨rfl, rfl⟩) | ((with_reducible refine ((cvy _).out).mono ?_); rintro e v1 ⟨rfl, rfl⟩)))
            go_ret
            exact ⟨by first | exact ⟨false, rfl, by simp; exact hno.out⟩ | exact .inl ⟨rfl, hno.out⟩, HBB.out.alloc (Nat.le_of_lt hlB) _⟩
          have f2 : decide (left < 1) = false := decide_eq_false q2
          by_cases q3 : 24 < left
          · have f3 : decide (24 < left) = true := decide_eq_true q3
            have hno := Lib.hid (show ¬ Gm.ok g from fun h => by have := (HO.out h).2.2.2.2.2.2.2; omega)
            clear HO HQ q0 q1 q2 q3
            go_wp2_with (first | (go_at_call 107; first | ((with_reducible refine ((cx _).out).mono ?_); rintro e v1 ⟨rfl, rfl⟩) | ((with_reducible refine ((cy _).out).mono ?_); rintro e v1 ⟨rfl, rfl⟩)) | (go_at_call 108; first | ((with_reducible refine ((cvx _).out).mono ?_); rintro e v1 ⟨rfl, rfl⟩) | ((with_reducible refine ((cvy _).out).mono ?_); rintro e v1 ⟨rfl, rfl⟩)))
            go_ret
            exact ⟨by first | exact ⟨false, rfl, by simp; exact hno.out⟩ | exact .inl ⟨rfl, hno.out⟩, HBB.out.alloc (Nat.le_of_lt hlB) _⟩
          have f3 : decide (24 < left) = false := decide_eq_false q3
          have ho := Lib.hid (HQ.out ⟨rfl, rfl, rfl, rfl, by omega, by omega, by omega, by omega⟩)
          clear HO HQ q0 q1 q2 q3
          go_wp2_with (first | (go_at_call 107; first | ((with_reducible refine ((cx _).out).mono ?_); rintro e v1 ⟨rfl, rfl⟩) | ((with_reducible refine ((cy _).out).mono ?_); rintro e v1 ⟨rfl, rfl⟩)) | (go_at_call 108; first | ((with_reducible refine ((cvx _).out).mono ?_); rintro e v1 ⟨rfl, rfl⟩) | ((with_reducible refine ((cvy _).out).mono ?_); rintro e v1 ⟨rfl, rfl⟩)))
          go_roundw
          case rel => exact ⟨m + 1, by omega, by go_num, HB.out.alloc _, HBB.out.alloc (Nat.le_of_lt hlB) _, ho.out⟩
          case measure => simp [intOf]; omega
        · have hmn : ¬ (m : Int) < n := by omega
          have hyes := Lib.hid (show Gm.ok g from ⟨HF.out.1, HF.out.2.1, HF.out.2.2, HA8.out, fun j hj => HALL.out j hj (by have := hN.out; omega)⟩)
          have HBB := Lib.hid hb
          clear hr hshots hb hB HALL
          go_wp2
          go_ret
          exact ⟨by first | exact ⟨true, rfl, by simp; exact hyes.out⟩ | exact .inr ⟨rfl, hyes.out⟩, HBB.out⟩
end Go.Proofs.Ytbihnmingedgfaa

/-
The document's answer of layer 8: which rosters may be.
-/




namespace Go.Proofs.Ytbihnmingedgfaa
open Go.RowKit Go.Shelf
set_option linter.unusedVariables false
set_option linter.unusedSimpArgs false

set_option maxRecDepth 100000 in
set_option maxHeartbeats 8000000 in
theorem refros_may (r : Ros.R) (w : World) :
    Calls Try.prog 80 #[.agg (Ros.cells r)] w fun e w' => (∃ v, e = .returned (.bool v) ∧ (v = true ↔ Ros.Ok r)) ∧ Below w.heap.size w w' := by
  have hc : ∀ W : World, ∀ j, (W.alloc (.cells (Ros.cells r) 51)).cell? ⟨W.heap.size, j, none⟩ = (Ros.cells r)[j]? := fun W j => (Box.made W _ _).cell j
  have h0 := Ros.cells_0 r
  by_cases hv1 : r.version < 0
  · have d1 : decide (r.version < 0) = true := decide_eq_true hv1
    have hno := Lib.hid (show ¬ Ros.Ok r from fun h => by have := h.1; omega)
    clear hv1
    go_enter Try.func80, Try.ntmps80
    go_wp2
    go_ret
    exact ⟨by first | exact ⟨false, rfl, by simp; exact hno.out⟩ | exact .inl ⟨rfl, hno.out⟩, one_below _ _⟩
  have d1 : decide (r.version < 0) = false := decide_eq_false hv1
  by_cases hv2 : 1073741824 < r.version
  · have d2 : decide (1073741824 < r.version) = true := decide_eq_true hv2
    have hno := Lib.hid (show ¬ Ros.Ok r from fun h => by have := h.1; omega)
    clear hv1 hv2
    go_enter Try.func80, Try.ntmps80
    go_wp2
    go_ret
    exact ⟨by first | exact ⟨false, rfl, by simp; exact hno.out⟩ | exact .inl ⟨rfl, hno.out⟩, one_below _ _⟩
  have d2 : decide (1073741824 < r.version) = false := decide_eq_false hv2
  have HV := Lib.hid (show 0 ≤ r.version ∧ r.version ≤ 1073741824 from ⟨by omega, by omega⟩)
  clear hv1 hv2
  go_enter Try.func80, Try.ntmps80
  go_wp2
  go_loopw [3] (fun i wr => ∃ k : Nat, k ≤ 8 ∧ i = .int .i64 k ∧ Box wr w.heap.size 51 (Ros.cells r) ∧ Below w.heap.size w wr ∧ (∀ j, j < k → Ros.OkSeat r j) ∧ ∀ j i, j < i → i < k → r.peer j = -1 ∨ r.peer j ≠ r.peer i) (fun i _ => 8 - (intOf i).toNat)
  case atStart => exact ⟨0, by omega, rfl, Box.made _ _ _, one_below _ _, fun j hj => absurd hj (Nat.not_lt_zero j), fun j i _ hi => absurd hi (Nat.not_lt_zero i)⟩
  case round =>
    obtain ⟨k, hk, rfl, hB, hb, hall, hp⟩ := hrel
    have HALL := Lib.hid hall
    have HP := Lib.hid hp
    clear hall hp d1 d2 h0 hc
    by_cases hlt : k < 8
    · have hk8 : (k : Int) < 8 := by omega
      have rc := hB.cell
      have hlB := hB.lt
      have rp := Ros.cells_peer r k hlt
      have rg := Ros.cells_gen r k hlt
      have HS := Lib.hid (show Ros.Ok r → (0 ≤ r.gen k ∧ r.gen k ≤ 60000) ∧ (r.peer k = -1 ∨ ((0 ≤ r.peer k ∧ r.peer k < 12) ∧ 0 < r.gen k)) from fun h => h.seat k hlt)
      have HZ := Lib.hid (show (0 ≤ r.gen k ∧ r.gen k ≤ 60000) ∧ (r.peer k = -1 ∨ ((0 ≤ r.peer k ∧ r.peer k < 12) ∧ 0 < r.gen k)) → ∀ j, j < k + 1 → Ros.OkSeat r j from fun h j hj => by
        by_cases e : j = k
        · rw [e]; exact h
        · exact HALL.out j (by omega))
      obtain ⟨p, hpk⟩ : ∃ p, p = r.peer k := ⟨_, rfl⟩
      obtain ⟨g, hgk⟩ : ∃ g, g = r.gen k := ⟨_, rfl⟩
      rw [← hpk] at rp HS HZ
      rw [← hgk] at rg HS HZ
      have HPK := Lib.hid hpk
      have HB := Lib.hid hB
      have HBB := Lib.hid hb
      clear hpk hgk hB hb HALL
      by_cases q0 : p < -1
      · have f0 : decide (p < -1) = true := decide_eq_true q0
        have hno := Lib.hid (show ¬ Ros.Ok r from fun h => by have := HS.out h; omega)
        clear HS HZ q0
        go_wp2
        go_ret
        exact ⟨by first | exact ⟨false, rfl, by simp; exact hno.out⟩ | exact .inl ⟨rfl, hno.out⟩, HBB.out.alloc (Nat.le_of_lt hlB) _⟩
      have f0 : decide (p < -1) = false := decide_eq_false q0
      by_cases q1 : 12 ≤ p
      · have f1 : decide (12 ≤ p) = true := decide_eq_true q1
        have hno := Lib.hid (show ¬ Ros.Ok r from fun h => by have := HS.out h; omega)
        clear HS HZ q0 q1
        go_wp2
        go_ret
        exact ⟨by first | exact ⟨false, rfl, by simp; exact hno.out⟩ | exact .inl ⟨rfl, hno.out⟩, HBB.out.alloc (Nat.le_of_lt hlB) _⟩
      have f1 : decide (12 ≤ p) = false := decide_eq_false q1
      by_cases q2 : g < 0
      · have f2 : decide (g < 0) = true := decide_eq_true q2
        have hno := Lib.hid (show ¬ Ros.Ok r from fun h => by have := HS.out h; omega)
        clear HS HZ q0 q1 q2
        go_wp2
        go_ret
        exact ⟨by first | exact ⟨false, rfl, by simp; exact hno.out⟩ | exact .inl ⟨rfl, hno.out⟩, HBB.out.alloc (Nat.le_of_lt hlB) _⟩
      have f2 : decide (g < 0) = false := decide_eq_false q2
      by_cases q3 : 60000 < g
      · have f3 : decide (60000 < g) = true := decide_eq_true q3
        have hno := Lib.hid (show ¬ Ros.Ok r from fun h => by have := HS.out h; omega)
        clear HS HZ q0 q1 q2 q3
        go_wp2
        go_ret
        exact ⟨by first | exact ⟨false, rfl, by simp; exact hno.out⟩ | exact .inl ⟨rfl, hno.out⟩, HBB.out.alloc (Nat.le_of_lt hlB) _⟩
      have f3 : decide (60000 < g) = false := decide_eq_false q3
      by_cases q4 : 0 ≤ p
      · have f4 : decide (0 ≤ p) = true := decide_eq_true q4
        by_cases q5 : g < 1
        · have f5 : decide (g < 1) = true := decide_eq_true q5
          have hno := Lib.hid (show ¬ Ros.Ok r from fun h => by have := HS.out h; omega)
          clear HS HZ q0 q1 q2 q3 q4 q5
          go_wp2
          go_ret
          exact ⟨by first | exact ⟨false, rfl, by simp; exact hno.out⟩ | exact .inl ⟨rfl, hno.out⟩, HBB.out.alloc (Nat.le_of_lt hlB) _⟩
        have f5 : decide (g < 1) = false := decide_eq_false q5
        have hnew := Lib.hid (HZ.out (by omega))
        clear HS HZ q0 q1 q2 q3 q5
        go_wp2
        go_loopw [5] (fun i wr2 => ∃ m : Nat, m ≤ k ∧ i = .int .i64 m ∧ Box wr2 w.heap.size 51 (Ros.cells r) ∧ Box wr2 wr.heap.size 48 #[.int .i64 p, .int .i64 g] ∧ Below w.heap.size w wr2 ∧ ∀ j, j < m → r.peer j = -1 ∨ r.peer j ≠ p) (fun i _ => k - (intOf i).toNat)
        case atStart => exact ⟨0, by omega, rfl, HB.out.alloc _, Box.made _ _ _, HBB.out.alloc (Nat.le_of_lt hlB) _, fun j hj => absurd hj (Nat.not_lt_zero j)⟩
        case round =>
          obtain ⟨m, hm, rfl, hB2, hS2, hb2, hall2⟩ := hrel
          have HALL2 := Lib.hid hall2
          clear hall2 rc rp rg
          by_cases hmk : m < k
          · have hm8 : m < 8 := by omega
            have hm8' : (m : Int) < 8 := by omega
            have hmk' : (m : Int) < k := by omega
            have rc := hB2.cell
            have sc := hS2.cell
            have rp := Ros.cells_peer r m hm8
            have s0 : (#[.int .i64 p, .int .i64 g] : Array Value)[0]? = some (.int .i64 p) := rfl
            obtain ⟨q, hq⟩ : ∃ q, q = r.peer m := ⟨_, rfl⟩
            rw [← hq] at rp
            have HB2 := Lib.hid hB2
            have HS2 := Lib.hid hS2
            have HBB2 := Lib.hid hb2
            by_cases hqp : q = p
            · have hqe : (q == p) = true := by simpa using hqp
              have hno := Lib.hid (show ¬ Ros.Ok r from fun h => by
                have := (Ros.ok_iff.1 h).2.2 m k hmk hlt
                rw [← hq, ← HPK.out] at this
                omega)
              clear hq hqp hB2 hS2 hb2 q4
              go_upto_region 12 with fail
              go_quiet (fail)
              go_wp2
              go_ret
              exact ⟨by first | exact ⟨false, rfl, by simp; exact hno.out⟩ | exact .inl ⟨rfl, hno.out⟩, draws_below HBB2.out _⟩
            have hqe : (q == p) = false := by simpa using hqp
            have hn2 := Lib.hid (show ∀ j, j < m + 1 → r.peer j = -1 ∨ r.peer j ≠ p from fun j hj => by
              by_cases e : j = m
              · rw [e, ← hq]; exact .inr hqp
              · exact HALL2.out j (by omega))
            clear hq hB2 hS2 hb2 hqp q4
            go_upto_region 12 with fail
            go_quiet (fail)
            go_wp2
            go_roundw
            case rel => exact ⟨m + 1, by omega, by go_num, HB2.out.draws _, HS2.out.draws _, draws_below HBB2.out _, hn2.out⟩
            case measure => simp [intOf]; omega
          · have hmk' : ¬ (m : Int) < k := by omega
            have HB2 := Lib.hid hB2
            have HBB2 := Lib.hid hb2
            have hall3 := Lib.hid (show ∀ j i, j < i → i < k + 1 → r.peer j = -1 ∨ r.peer j ≠ r.peer i from fun j i hji hi => by
              by_cases e : i = k
              · rw [e, ← HPK.out]; exact HALL2.out j (by omega)
              · exact HP.out j i hji (by omega))
            clear hB2 hS2 hb2
            go_wp2
            go_roundw
            case rel => exact ⟨k + 1, by omega, by go_num, HB2.out, HBB2.out, hnew.out, hall3.out⟩
            case measure => simp [intOf]; omega
      · have f4 : decide (0 ≤ p) = false := decide_eq_false q4
        have hpm := Lib.hid (show p = -1 by omega)
        have hnew := Lib.hid (HZ.out (by omega))
        clear HS HZ q0 q1 q2 q3 
        go_wp2
        go_loopw [5] (fun i wr2 => ∃ m : Nat, m ≤ k ∧ i = .int .i64 m ∧ Box wr2 w.heap.size 51 (Ros.cells r) ∧ Box wr2 wr.heap.size 48 #[.int .i64 p, .int .i64 g] ∧ Below w.heap.size w wr2 ∧ ∀ j, j < m → r.peer j = -1 ∨ r.peer j ≠ p) (fun i _ => k - (intOf i).toNat)
        case atStart => exact ⟨0, by omega, rfl, HB.out.alloc _, Box.made _ _ _, HBB.out.alloc (Nat.le_of_lt hlB) _, fun j hj => absurd hj (Nat.not_lt_zero j)⟩
        case round =>
          obtain ⟨m, hm, rfl, hB2, hS2, hb2, hall2⟩ := hrel
          have HALL2 := Lib.hid hall2
          clear hall2 rc rp rg
          by_cases hmk : m < k
          · have hm8 : m < 8 := by omega
            have hm8' : (m : Int) < 8 := by omega
            have hmk' : (m : Int) < k := by omega
            have rc := hB2.cell
            have sc := hS2.cell
            have rp := Ros.cells_peer r m hm8
            have s0 : (#[.int .i64 p, .int .i64 g] : Array Value)[0]? = some (.int .i64 p) := rfl
            obtain ⟨q, hq⟩ : ∃ q, q = r.peer m := ⟨_, rfl⟩
            rw [← hq] at rp
            have HB2 := Lib.hid hB2
            have HS2 := Lib.hid hS2
            have HBB2 := Lib.hid hb2
            have hn2 := Lib.hid (show ∀ j, j < m + 1 → r.peer j = -1 ∨ r.peer j ≠ p from fun j hj => by
              by_cases e : j = m
              · rw [e, ← hq]; first | (by_cases e2 : q = -1; exact .inl e2; exact .inr (fun e3 => e2 (by have := hpm.out; omega)))
              · exact HALL2.out j (by omega))
            clear hq hB2 hS2 hb2 q4
            go_upto_region 12 with fail
            go_quiet (fail)
            go_wp2
            go_roundw
            case rel => exact ⟨m + 1, by omega, by go_num, HB2.out.draws _, HS2.out.draws _, draws_below HBB2.out _, hn2.out⟩
            case measure => simp [intOf]; omega
          · have hmk' : ¬ (m : Int) < k := by omega
            have HB2 := Lib.hid hB2
            have HBB2 := Lib.hid hb2
            have hall3 := Lib.hid (show ∀ j i, j < i → i < k + 1 → r.peer j = -1 ∨ r.peer j ≠ r.peer i from fun j i hji hi => by
              by_cases e : i = k
              · rw [e, ← HPK.out]; exact HALL2.out j (by omega)
              · exact HP.out j i hji (by omega))
            clear hB2 hS2 hb2
            go_wp2
            go_roundw
            case rel => exact ⟨k + 1, by omega, by go_num, HB2.out, HBB2.out, hnew.out, hall3.out⟩
            case measure => simp [intOf]; omega
    · have hk8 : ¬ (k : Int) < 8 := by omega
      have hyes := Lib.hid (show Ros.Ok r from Ros.ok_iff.2 ⟨HV.out, fun j hj => HALL.out j (by omega), fun j i hji hi => HP.out j i hji (by omega)⟩)
      have HBB := Lib.hid hb
      clear hB hb
      go_wp2
      go_ret
      exact ⟨by first | exact ⟨true, rfl, by simp; exact hyes.out⟩ | exact .inr ⟨rfl, hyes.out⟩, HBB.out⟩
end Go.Proofs.Ytbihnmingedgfaa

/-
The document's answer: which states may be; few shots.
-/



namespace Go.Proofs.Ytbihnmingedgfaa
open Go.RowKit Go.Shelf
set_option linter.unusedVariables false
set_option linter.unusedSimpArgs false

set_option maxRecDepth 100000 in
set_option maxHeartbeats 4000000 in
theorem refstate_any (g : Gm.G) (r : Ros.R) (A : Option Addr) (n c : Nat) (w : World) (hty : Gm.ty g) (hn : n = g.shots.length) (hn63 : n ≤ maxLen) (hr : Lies w w.heap.size 6 A n (Gm.shotCells g.shots)) :
    Calls Try.prog 30 #[.agg (Im.cells g (.slice A n c) r)] w fun e w' => (∃ v, e = .returned (.bool v) ∧ (v = true ↔ Im.Ok g r)) ∧ Below w.heap.size w w' := by
  have P0 := Lib.hid (Box.made w 53 (Im.cells g (.slice A n c) r))
  have K0 := Lib.hid (one_below w (.cells (Im.cells g (.slice A n c) r) 53))
  have HQ := Lib.hid ((hr.below K0.out).wider K0.out.size)
  have cg := fun X hX => Lib.hid (refmay_any g A n c X hty hn hn63 hX)
  have cr := fun X => Lib.hid (refros_may r X)
  clear hr hn hty hn63
  by_cases hg : Gm.ok g
  · have HG := Lib.hid hg
    by_cases hok : Ros.Ok r
    · have HR := Lib.hid hok
      clear hg hok
      go_enter Try.func30, Try.ntmps30
      go_wp2_with (first | ((with_reducible refine im_load_game rfl rfl ?_); apply LoadIm.mk rfl; (focus (with_reducible exact P0.out)); dsimp only) | ((with_reducible refine im_load_ros_g ?_ rfl ?_); (focus first | rfl | kernel_rfl | simp [Region.wanted, yielded]); apply LoadIm.mk rfl; (focus (with_reducible exact P1.out)); dsimp only) | (go_at_call 56; ((with_reducible refine ((cg _ HQ.out).out).mono ?_); rintro e w1 ⟨⟨v1, rfl, hv1⟩, hb⟩; obtain rfl : v1 = true := hv1.2 HG.out; have P1 := Lib.hid (P0.out.below hb P0.out.lt); have K1 := Lib.hid (K0.out.trans (hb.mono K0.out.size)); clear hb hv1)) | (go_at_call 80; ((with_reducible refine ((cr _).out).mono ?_); rintro e w2 ⟨⟨v2, rfl, hv2⟩, hb⟩; obtain rfl : v2 = true := hv2.2 HR.out; have P2 := Lib.hid (P1.out.below hb P1.out.lt); have K2 := Lib.hid (K1.out.trans (hb.mono K1.out.size)); clear hb hv2)))
      go_loopw [3] (fun i wr => ∃ k : Nat, k ≤ 8 ∧ i = .int .i64 k ∧ Box wr w.heap.size 53 (Im.cells g (.slice A n c) r) ∧ Below w.heap.size w wr ∧ ∀ j, j < k → (g.ship j).on = decide (0 ≤ r.peer j)) (fun i _ => 8 - (intOf i).toNat)
      case atStart => exact ⟨0, by omega, rfl, P2.out, K2.out, fun j hj => absurd hj (Nat.not_lt_zero j)⟩
      case round =>
        obtain ⟨k, hk, rfl, hB, hb, hall⟩ := hrel
        clear P0 K0 P1 K1 P2 K2 HQ cg cr
        by_cases hlt : k < 8
        · have hk8 : (k : Int) < 8 := by omega
          have e0 : wr.cell? ⟨w.heap.size, 2 + k * 7, none⟩ = some (.bool (g.ship k).on) := (hB.cell _).trans ((Im.cells_ship g _ r k 0 hlt (by omega)).trans rfl)
          have e1 : wr.cell? ⟨w.heap.size, 60 + k * 2, none⟩ = some (.int .i64 (r.peer k)) := (hB.cell _).trans (by
            have := Im.cells_r g (.slice A n c) r (1 + k * 2)
            rw [show 60 + k * 2 = 59 + (1 + k * 2) by omega]
            exact this.trans (Ros.cells_peer r k hlt))
          obtain ⟨on, hon⟩ : ∃ on, on = (g.ship k).on := ⟨_, rfl⟩
          obtain ⟨pk, hpk⟩ : ∃ pk, pk = r.peer k := ⟨_, rfl⟩
          rw [← hon] at e0
          rw [← hpk] at e1
          have HON := Lib.hid hon
          have HPK := Lib.hid hpk
          have HALL := Lib.hid hall
          have HB := Lib.hid hB
          have HBB := Lib.hid hb
          clear hon hpk hall hB hb
          by_cases hm : on = decide (0 ≤ pk)
          · have hnew := Lib.hid (show ∀ j, j < k + 1 → (g.ship j).on = decide (0 ≤ r.peer j) from fun j hj => by
              by_cases e : j = k
              · rw [e, ← HON.out, ← HPK.out]; exact hm
              · exact HALL.out j (by omega))
            cases hd : decide (0 ≤ pk)
            · rw [hd] at hm
              subst hm
              go_upto_region 6 with fail
              go_quiet (fail)
              go_wp2
              go_roundw
              case rel => exact ⟨k + 1, by omega, by go_num, HB.out.draws _, draws_below HBB.out _, hnew.out⟩
              case measure => simp [intOf]; omega
            · rw [hd] at hm
              subst hm
              go_upto_region 6 with fail
              go_quiet (fail)
              go_wp2
              go_roundw
              case rel => exact ⟨k + 1, by omega, by go_num, HB.out.draws _, draws_below HBB.out _, hnew.out⟩
              case measure => simp [intOf]; omega
          · have hno := Lib.hid (show ¬ Im.Ok g r from fun h => hm (by rw [HON.out, HPK.out]; exact h.2.2 k hlt))
            cases hd : decide (0 ≤ pk)
            · obtain rfl : on = true := by
                cases on
                · exact absurd hd.symm hm
                · rfl
              clear hm
              go_upto_region 6 with fail
              go_quiet (fail)
              go_wp2
              go_ret
              exact ⟨by first | exact ⟨false, rfl, by simp; exact hno.out⟩ | exact .inl ⟨rfl, hno.out⟩, draws_below HBB.out _⟩
            · obtain rfl : on = false := by
                cases on
                · rfl
                · exact absurd hd.symm hm
              clear hm
              go_upto_region 6 with fail
              go_quiet (fail)
              go_wp2
              go_ret
              exact ⟨by first | exact ⟨false, rfl, by simp; exact hno.out⟩ | exact .inl ⟨rfl, hno.out⟩, draws_below HBB.out _⟩
        · have hk8 : ¬ (k : Int) < 8 := by omega
          have hyes := Lib.hid (show Im.Ok g r from ⟨HG.out, HR.out, fun j hj => hall j (by omega)⟩)
          have HBB := Lib.hid hb
          clear hall hB hb
          go_wp2
          go_ret
          exact ⟨by first | exact ⟨true, rfl, by simp; exact hyes.out⟩ | exact .inr ⟨rfl, hyes.out⟩, HBB.out⟩
    · have HR := Lib.hid hok
      have hno := Lib.hid (show ¬ Im.Ok g r from fun h => hok h.2.1)
      clear hg hok
      go_enter Try.func30, Try.ntmps30
      go_wp2_with (first | ((with_reducible refine im_load_game rfl rfl ?_); apply LoadIm.mk rfl; (focus (with_reducible exact P0.out)); dsimp only) | ((with_reducible refine im_load_ros_g ?_ rfl ?_); (focus first | rfl | kernel_rfl | simp [Region.wanted, yielded]); apply LoadIm.mk rfl; (focus (with_reducible exact P1.out)); dsimp only) | (go_at_call 56; ((with_reducible refine ((cg _ HQ.out).out).mono ?_); rintro e w1 ⟨⟨v1, rfl, hv1⟩, hb⟩; obtain rfl : v1 = true := hv1.2 HG.out; have P1 := Lib.hid (P0.out.below hb P0.out.lt); have K1 := Lib.hid (K0.out.trans (hb.mono K0.out.size)); clear hb hv1)) | (go_at_call 80; ((with_reducible refine ((cr _).out).mono ?_); rintro e w2 ⟨⟨v2, rfl, hv2⟩, hb⟩; obtain rfl : v2 = false := (by cases v2 <;> first | rfl | exact absurd (hv2.1 rfl) HR.out); have P2 := Lib.hid (P1.out.below hb P1.out.lt); have K2 := Lib.hid (K1.out.trans (hb.mono K1.out.size)); clear hb hv2)))
      go_ret
      exact ⟨by first | exact ⟨false, rfl, by simp; exact hno.out⟩ | exact .inl ⟨rfl, hno.out⟩, K2.out⟩
  · have HG := Lib.hid hg
    have hno := Lib.hid (show ¬ Im.Ok g r from fun h => hg h.1)
    have HR := Lib.hid True.intro
    clear hg
    go_enter Try.func30, Try.ntmps30
    go_wp2_with (first | ((with_reducible refine im_load_game rfl rfl ?_); apply LoadIm.mk rfl; (focus (with_reducible exact P0.out)); dsimp only) | ((with_reducible refine im_load_ros_g ?_ rfl ?_); (focus first | rfl | kernel_rfl | simp [Region.wanted, yielded]); apply LoadIm.mk rfl; (focus (with_reducible exact P1.out)); dsimp only) | (go_at_call 56; ((with_reducible refine ((cg _ HQ.out).out).mono ?_); rintro e w1 ⟨⟨v1, rfl, hv1⟩, hb⟩; obtain rfl : v1 = false := (by cases v1 <;> first | rfl | exact absurd (hv1.1 rfl) HG.out); have P1 := Lib.hid (P0.out.below hb P0.out.lt); have K1 := Lib.hid (K0.out.trans (hb.mono K0.out.size)); clear hb hv1)) | (go_at_call 80; ((with_reducible refine ((cr _).out).mono ?_); rintro e w2 ⟨⟨v2, rfl, hv2⟩, hb⟩; obtain rfl : v2 = false := (by cases v2 <;> first | rfl | exact absurd (hv2.1 rfl) HR.out); have P2 := Lib.hid (P1.out.below hb P1.out.lt); have K2 := Lib.hid (K1.out.trans (hb.mono K1.out.size)); clear hb hv2)))
    go_ret
    exact ⟨by first | exact ⟨false, rfl, by simp; exact hno.out⟩ | exact .inl ⟨rfl, hno.out⟩, K1.out⟩

theorem few_any (g : Gm.G) (A : Option Addr) (n c : Nat) (w : World) (hn63 : n ≤ maxLen) :
    Calls Try.prog 27 #[.agg (Gm.cells g (.slice A n c))] w fun e w' => e = .returned (.bool (decide (n ≤ 60))) ∧ Below w.heap.size w w' := by
  have hc : ∀ W : World, ∀ j, (W.alloc (.cells (Gm.cells g (.slice A n c)) 30)).cell? ⟨W.heap.size, j, none⟩ = (Gm.cells g (.slice A n c))[j]? := fun W j => (Box.made W _ _).cell j
  have h58 := Gm.cells_58 g (.slice A n c)
  have n63 : (n : Int) ≤ 9223372036854775807 := by unfold maxLen at hn63; omega
  have hd : decide (n ≤ 60) = decide ((n : Int) ≤ 60) := by rw [Bool.eq_iff_iff]; simp; omega
  rw [hd]
  go_enter Try.func27, Try.ntmps27
  go_wp2
  go_ret
  exact ⟨rfl, one_below _ _⟩
end Go.Proofs.Ytbihnmingedgfaa

/-
The document's image: a state out of a string, plainly, and where its Get stands.
-/




namespace Go.Proofs.Ytbihnmingedgfaa
namespace Im
open Go Go.RowKit _root_.Im
set_option linter.unusedVariables false
/-- The whole T is what f makes of what is left; behind a fault it is none. -/
def Sn {α : Type} (T : Option α) (f : List Int → Option α) : Option (List Int) → Prop
  | none => T = none
  | some r => T = f r
theorem Sn.num {α : Type} {T : Option α} {f : List Int → Option α} {g : Int → List Int → Option α} {o : Option (List Int)} (n : Nat) (h : Sn T f o) (hf : ∀ r, f r = (rdn n r).bind fun q => g q.1 q.2) : Sn T (g (Sx.num n o)) (Sx.rest n o) := by
  match o with
  | none => exact h
  | some r =>
    have hT : T = f r := h
    rw [hf r] at hT
    cases hr : rdn n r with
    | none => rw [(Sx.num_none hr).2]; rw [hr] at hT; exact hT
    | some q =>
      have hr' : rdn n r = some (q.1, q.2) := hr
      rw [(Sx.num_some hr').2, (Sx.num_some hr').1]
      rw [hr] at hT
      exact hT
theorem Sn.bad {α : Type} {T : Option α} {f f' : List Int → Option α} {o : Option (List Int)} (h : Sn T f o) (hf : ∀ r, f r = none) : Sn T f' none := by
  match o with
  | none => exact h
  | some r => exact (show T = f r from h).trans (hf r)
theorem Sn.to {α : Type} {T : Option α} {f f' : List Int → Option α} {o : Option (List Int)} (h : Sn T f o) (hf : ∀ r, f r = f' r) : Sn T f' o := by
  match o with
  | none => exact h
  | some r => exact (show T = f r from h).trans (hf r)
def tail3 (g : Gm.G) (k : Nat) (q : Ros.R) (r : List Int) : Option ((Gm.G × Ros.R) × List Int) := (decSeats k (8 - k) q r).bind fun x => some ((g, x.1), x.2)
def tail2 (g : Gm.G) (r : List Int) : Option ((Gm.G × Ros.R) × List Int) := (rdn 4 r).bind fun v => tail3 g 0 { R0 with version := v.1 } v.2
def fShots (f d : Int) (s : Nat → Gm.Ship) (n k : Nat) (acc : List Gm.Shot) (r : List Int) : Option ((Gm.G × Ros.R) × List Int) := (decShots (n - k) acc r).bind fun l => tail2 ⟨f, d, s, l.1⟩ l.2
def tail1 (f d : Int) (s : Nat → Gm.Ship) (r : List Int) : Option ((Gm.G × Ros.R) × List Int) := (rdn 1 r).bind fun n => fShots f d s n.1.toNat 0 [] n.2
def fShips (f d : Int) (k : Nat) (s : Nat → Gm.Ship) (r : List Int) : Option ((Gm.G × Ros.R) × List Int) := (decShips k (8 - k) s r).bind fun x => tail1 f d x.1 x.2
theorem dec_is (l : List Int) : dec l = (rdn 4 l).bind fun f => (rdn 8 f.2).bind fun d => fShips f.1 d.1 0 ships0 d.2 := by
  unfold dec fShips tail1 fShots tail2 tail3 decRow
  simp only [Option.bind_assoc, Nat.sub_zero]
theorem fShips_step (f d : Int) (k : Nat) (hk : k < 8) (s : Nat → Gm.Ship) (r : List Int) : fShips f d k s r = (rdn 1 r).bind fun o => if o.1 = 0 then fShips f d (k + 1) (Gm.upd s k Gm.Ship.none) o.2 else if o.1 = 1 then
    (rdn 4 o.2).bind fun a => (rdn 4 a.2).bind fun b => (rdn 4 b.2).bind fun c => (rdn 4 c.2).bind fun e => (rdn 1 e.2).bind fun h => (rdn 4 h.2).bind fun t =>
      fShips f d (k + 1) (Gm.upd s k ⟨true, IntKind.i32.wrap a.1, IntKind.i32.wrap b.1, IntKind.i32.wrap c.1, IntKind.i32.wrap e.1, h.1, t.1⟩) t.2 else none := by
  unfold fShips
  rw [show 8 - k = (8 - (k + 1)) + 1 by omega]
  show ((decShip r).bind _).bind _ = _
  unfold decShip
  simp only [Option.bind_assoc]
  congr 1
  funext o
  split
  · simp
  · split
    · unfold decParts decParts decParts decParts decParts
      simp only [Option.bind_assoc, Option.bind_some]
      simp
    · simp
theorem fShips_end (f d : Int) (s : Nat → Gm.Ship) (r : List Int) : fShips f d 8 s r = tail1 f d s r := by
  unfold fShips; rw [Nat.sub_self]; rfl
theorem fShots_step (f d : Int) (s : Nat → Gm.Ship) (n k : Nat) (hk : k < n) (acc : List Gm.Shot) (r : List Int) : fShots f d s n k acc r = (rdn 1 r).bind fun o => (rdn 4 o.2).bind fun a => (rdn 4 a.2).bind fun b => (rdn 4 b.2).bind fun c => (rdn 4 c.2).bind fun e => (rdn 1 e.2).bind fun h =>
    fShots f d s n (k + 1) (acc ++ [⟨o.1, IntKind.i32.wrap a.1, IntKind.i32.wrap b.1, IntKind.i32.wrap c.1, IntKind.i32.wrap e.1, h.1⟩]) h.2 := by
  unfold fShots
  rw [show n - k = (n - (k + 1)) + 1 by omega]
  show ((decShot r).bind _).bind _ = _
  unfold decShot
  simp only [Option.bind_assoc]
  congr 1
  funext o
  unfold decParts decParts decParts decParts decParts
  simp only [Option.bind_assoc, Option.bind_some]
  simp
theorem fShots_end (f d : Int) (s : Nat → Gm.Ship) (n : Nat) (acc : List Gm.Shot) (r : List Int) : fShots f d s n n acc r = tail2 ⟨f, d, s, acc⟩ r := by
  unfold fShots; rw [Nat.sub_self]; rfl
theorem tail3_step (g : Gm.G) (k : Nat) (hk : k < 8) (q : Ros.R) (r : List Int) : tail3 g k q r = (rdn 1 r).bind fun p => (rdn 2 p.2).bind fun n => tail3 g (k + 1) (setSeat q k (p.1 - 1) n.1) n.2 := by
  unfold tail3
  rw [show 8 - k = (8 - (k + 1)) + 1 by omega]
  show ((decSeat r).bind _).bind _ = _
  unfold decSeat
  simp only [Option.bind_assoc]
  rfl
theorem set7im (g : Gm.G) (s : Value) (r : Ros.R) (k : Nat) (hk : k < 8) (t : Gm.Ship) : (((((((cells g s r).setIfInBounds (2 + k * 7) (.bool t.on)).setIfInBounds (2 + k * 7 + 1) (.int .i32 t.x)).setIfInBounds (2 + k * 7 + 2) (.int .i32 t.y)).setIfInBounds (2 + k * 7 + 3) (.int .i32 t.vx)).setIfInBounds (2 + k * 7 + 4) (.int .i32 t.vy)).setIfInBounds (2 + k * 7 + 5) (.int .i64 t.cool)).setIfInBounds (2 + k * 7 + 6) (.int .i64 t.score) = cells { g with ship := Gm.upd g.ship k t } s r := by
  have e : ∀ (cs : Array Value) (i : Nat) (v : Value), i < 59 → cs.size = 59 → (cs ++ Ros.cells r).setIfInBounds i v = cs.setIfInBounds i v ++ Ros.cells r := fun cs i v hi hc => by rw [Array.setIfInBounds_append, if_pos (by omega)]
  unfold cells
  rw [e _ _ _ (by omega) (by simp [Gm.cells_size]), e _ _ _ (by omega) (by simp [Gm.cells_size]), e _ _ _ (by omega) (by simp [Gm.cells_size]), e _ _ _ (by omega) (by simp [Gm.cells_size]), e _ _ _ (by omega) (by simp [Gm.cells_size]), e _ _ _ (by omega) (by simp [Gm.cells_size]), e _ _ _ (by omega) (by simp [Gm.cells_size]), set7 g s k hk t]
end Im
open Go.RowKit Go.Shelf
set_option linter.unusedVariables false
set_option linter.unusedSimpArgs false

theorem own_sol {w w' : World} {B base n size : Nat} {e t : TypeId} {v : Value} {xs : List Value} {cs : Array Value} (h : w.ownsRow base e size v n xs) (k : Sol B w w') (hB : Box w B t cs) (ht : e ≠ t) : w'.ownsRow base e size v n xs := by
  have hne := hB.unowned h ht
  obtain ⟨hl, h' | ⟨g, cap, cur, rfl, hbg, hg, hr⟩⟩ := h
  · exact ⟨hl, .inl h'⟩
  · have hlt : g < w.heap.size := (Array.getElem?_eq_some_iff.1 hg).1
    exact ⟨hl, .inr ⟨g, cap, cur, rfl, hbg, (k.block g hlt (fun e => hne (by rw [e]; rfl))).trans hg, hr⟩⟩
theorem own_new {w : World} {base n : Nat} {e : TypeId} {size : Nat} {v : Value} {xs : List Value} (h : w.ownsRow base e size v n xs) : v.ownBlock ≠ some w.heap.size := by
  obtain ⟨_, ⟨rfl, _⟩ | ⟨g, cap, cur, rfl, _, hg, _⟩⟩ := h
  · intro h; cases h
  · intro he
    have e' : g = w.heap.size := by injection he
    have := (Array.getElem?_eq_some_iff.1 hg).1
    omega
/-- Where the document's Get stands: its result's variable, its reader, its state; the shots' row is not block m. -/
structure GS (w : World) (g : Gm.G) (q : Ros.R) (o : Option (List Int)) (m : Option Nat) (W : World) : Prop where
  bytes : ∀ x, o = some x → Im.IsBytes x
  res : Box W w.heap.size 53 Im.zero
  rd : RIs W (w.heap.size + 1) o
  ent : ∃ A c, Box W (w.heap.size + 1 + 1) 53 (Im.cells g (.slice A g.shots.length c) q) ∧ W.ownsRow w.heap.size 108 6 (.slice A g.shots.length c) g.shots.length (Gm.shotCells g.shots) ∧ ∀ b, m = some b → (Value.slice A g.shots.length c).ownBlock ≠ some b
  keep : Below w.heap.size w W
section
variable {w W W' : World} {g g' : Gm.G} {q q' : Ros.R} {o o' : Option (List Int)} {m : Option Nat}
theorem GS.sol (h : GS w g q o m W) (k : Sol (w.heap.size + 1) W W') (hr : RIs W' (w.heap.size + 1) o') (hB : ∀ x, o' = some x → Im.IsBytes x) : GS w g q o' m W' := by
  obtain ⟨A, c, h1, h2, h3⟩ := h.ent
  obtain ⟨s, b, hb⟩ := h.rd.box
  exact ⟨hB, h.res.sol k (by omega), hr, ⟨A, c, h1.sol k (by omega), own_sol h2 k hb (by decide), h3⟩, h.keep.trans (k.below (by omega) h.keep.size)⟩
theorem GS.call (h : GS w g q o m W) (hb : Below W.heap.size W W') : GS w g q o m W' := by
  obtain ⟨A, c, h1, h2, h3⟩ := h.ent
  exact ⟨h.bytes, h.res.below hb h.res.lt, h.rd.below hb h.rd.lt, ⟨A, c, h1.below hb h1.lt, own_below h2 hb (Nat.le_refl _), h3⟩, h.keep.trans (hb.mono h.keep.size)⟩
theorem GS.mark (h : GS w g q o m W) (x : Obj) : GS w g q o (some W.heap.size) (W.alloc x) := by
  obtain ⟨A, c, h1, h2, h3⟩ := h.ent
  have hb := one_below W x
  exact ⟨h.bytes, h.res.below hb h.res.lt, h.rd.below hb h.rd.lt, ⟨A, c, h1.below hb h1.lt, own_below h2 hb (Nat.le_refl _), fun b hb' => by injection hb' with hb'; subst hb'; exact own_new h2⟩, h.keep.trans (hb.mono h.keep.size)⟩
theorem GS.unmark (h : GS w g q o m W) : GS w g q o none W := ⟨h.bytes, h.res, h.rd, by obtain ⟨A, c, h1, h2, h3⟩ := h.ent; exact ⟨A, c, h1, h2, fun b h => (by cases h)⟩, h.keep⟩
theorem GS.off {b : Nat} {t : TypeId} (h : GS w g q o (some b) W) {cs : Array Value} (hQ : Box W b t cs) (h1' : 53 ≠ t) (h2' : t ≠ 127) (hb : w.heap.size ≤ b) (i : Nat) (u : Value) : GS w g q o (some b) (W.setCell ⟨b, i, none⟩ u) := by
  obtain ⟨A, c, h1, h2, h3⟩ := h.ent
  exact ⟨h.bytes, h.res.far (p := ⟨b, i, none⟩) (Box.apart h.res hQ h1') u, h.rd.off (p := ⟨b, i, none⟩) hQ h2' u, ⟨A, c, h1.far (p := ⟨b, i, none⟩) (Box.apart h1 hQ h1') u, ownsRow_setCell_other (a := ⟨b, i, none⟩) h2 (h3 b rfl) u, h3⟩, h.keep.setCell (p := ⟨b, i, none⟩) hb u⟩
theorem GS.set (h : GS w g q o m W) (i : Nat) (u : Value) (he : ∀ sl, (Im.cells g sl q).setIfInBounds i u = Im.cells g' sl q') (hs : g'.shots = g.shots) : GS w g' q' o m (W.setCell ⟨w.heap.size + 1 + 1, i, none⟩ u) := by
  obtain ⟨A, c, h1, h2, h3⟩ := h.ent
  have b1 := h1.put i u
  rw [he] at b1
  refine ⟨h.bytes, h.res.far (p := ⟨w.heap.size + 1 + 1, i, none⟩) (by show w.heap.size ≠ w.heap.size + 1 + 1; omega) u, h.rd.off (p := ⟨w.heap.size + 1 + 1, i, none⟩) h1 (by decide) u, ⟨A, c, ?_, ?_, ?_⟩, h.keep.setCell (p := ⟨w.heap.size + 1 + 1, i, none⟩) (by show w.heap.size ≤ w.heap.size + 1 + 1; omega) u⟩
  · rw [hs]; exact b1
  · rw [hs]; exact ownsRow_setCell_other (a := ⟨w.heap.size + 1 + 1, i, none⟩) h2 (h1.unowned h2 (by decide)) u
  · rw [hs]; exact h3
theorem GS.setship (h : GS w g q o m W) {k : Nat} (hk : k < 8) (t : Gm.Ship) : GS w { g with ship := Gm.upd g.ship k t } q o m (stored W (w.heap.size + 1 + 1) k t) := by
  obtain ⟨A, c, h1, h2, h3⟩ := h.ent
  obtain ⟨s, b, hb⟩ := h.rd.box
  have b7 := ((((((h1.put (2 + k * 7) (.bool t.on)).put (2 + k * 7 + 1) (.int .i32 t.x)).put (2 + k * 7 + 2) (.int .i32 t.y)).put (2 + k * 7 + 3) (.int .i32 t.vx)).put (2 + k * 7 + 4) (.int .i32 t.vy)).put (2 + k * 7 + 5) (.int .i64 t.cool)).put (2 + k * 7 + 6) (.int .i64 t.score)
  rw [Im.set7im g _ q k hk t] at b7
  exact ⟨h.bytes, stored_far h.res (by omega) t, h.rd.stays ((stored_far hb (by omega) t).is.trans hb.is.symm), ⟨A, c, b7, stored_own h2 (h1.unowned h2 (by decide)) t, h3⟩, stored_below h.keep (by omega) t⟩
theorem GS.setrd (h : GS w g q o m W) (u : Value) (hr : RIs (W.setCell ⟨w.heap.size + 1, 1, none⟩ u) (w.heap.size + 1) o') (hB : ∀ x, o' = some x → Im.IsBytes x) : GS w g q o' m (W.setCell ⟨w.heap.size + 1, 1, none⟩ u) := by
  obtain ⟨A, c, h1, h2, h3⟩ := h.ent
  obtain ⟨s, b, hb⟩ := h.rd.box
  exact ⟨hB, h.res.far (p := ⟨w.heap.size + 1, 1, none⟩) (by show w.heap.size ≠ w.heap.size + 1; omega) _, hr, ⟨A, c, h1.far (p := ⟨w.heap.size + 1, 1, none⟩) (by show w.heap.size + 1 + 1 ≠ w.heap.size + 1; omega) _, ownsRow_setCell_other (a := ⟨w.heap.size + 1, 1, none⟩) h2 (hb.unowned h2 (by decide)) _, h3⟩, h.keep.setCell (p := ⟨w.heap.size + 1, 1, none⟩) (by show w.heap.size ≤ w.heap.size + 1; omega) _⟩
end
set_option maxRecDepth 100000 in
theorem rfour_any (o : Option (List Int)) (B : Nat) (w : World) (hB : ∀ l, o = some l → Im.IsBytes l) (h : RIs w B o) :
    Calls Try.prog 87 #[.pointer (some ⟨B, 0, none⟩)] w fun e w' => e = .returned (.int .i32 (IntKind.i32.wrap (Sx.num 4 o))) ∧ RIs w' B (Sx.rest 4 o) ∧ Sol B w w' := by
  have c1 := Lib.hid (rnum_any 4 4 rfl o B w (by omega) hB h)
  have hl := Sx.num_lt (n := 4) hB
  generalize Sx.num 4 o = v at *
  have hw : IntKind.u32.wrap v = v := by simp only [IntKind.wrap, IntKind.bits, IntKind.signed]; simp; omega
  clear hB h hl
  go_enter Try.func87, Try.ntmps87
  go_wp2_with (go_at_call 86; ((with_reducible refine (c1.out).mono ?_); rintro e w1 ⟨rfl, h1, h2⟩; have H1 := Lib.hid h1; have H2 := Lib.hid h2; clear h1 h2))
  go_ret
  exact ⟨by rw [IntKind.wrap_i32]; first | rfl | (unfold RowKit.wrap32; rfl), H1.out, H2.out⟩
theorem ship_built1 (x : Int) : Try.prog.built 26 [(0, .bool true), (1, .int .i32 x)] = some #[.bool true, .int .i32 x, .int .i32 0, .int .i32 0, .int .i32 0, .int .i64 0, .int .i64 0] := by kernel_rfl
theorem shot_built1 (x : Int) : Try.prog.built 108 [(0, .int .i64 x)] = some #[.int .i64 x, .int .i32 0, .int .i32 0, .int .i32 0, .int .i32 0, .int .i64 0] := by kernel_rfl
theorem shot_parts : ∃ i, Try.prog.info? 108 = some i ∧ i.zero = some (.agg #[.int .i64 0, .int .i32 0, .int .i32 0, .int .i32 0, .int .i32 0, .int .i64 0]) ∧ i.size = 6 ∧ i.bytes = 32 := by
  have h := shot_info
  cases hq : Try.prog.info? 108 with
  | none => rw [hq] at h; cases h
  | some i =>
    rw [hq] at h
    simp only [Option.map_some, Option.some.injEq, Prod.mk.injEq] at h
    exact ⟨i, rfl, h.1, h.2.1, h.2.2⟩
theorem shots1_fill (o x y vx vy l : Int) : Instr.fill (fun i => some (i * 6, 6)) ((Array.range (1 * 6)).map ((Value.agg #[.int .i64 0, .int .i32 0, .int .i32 0, .int .i32 0, .int .i32 0, .int .i64 0]).cells[· % (Value.agg #[.int .i64 0, .int .i32 0, .int .i32 0, .int .i32 0, .int .i32 0, .int .i64 0]).cells.size]!)) [(0, .agg #[.int .i64 o, .int .i32 x, .int .i32 y, .int .i32 vx, .int .i32 vy, .int .i64 l])] = some #[.int .i64 o, .int .i32 x, .int .i32 y, .int .i32 vx, .int .i32 vy, .int .i64 l] := by kernel_rfl
theorem shots1 (o x y vx vy l : Int) (W : World) : (Instr.buildSlice 28 1 #[(0, .agg #[.int .i64 o, .int .i32 x, .int .i32 y, .int .i32 vx, .int .i32 vy, .int .i64 l])]).run Try.prog W = .ok (.slice (some ⟨W.heap.size, 0, none⟩) 1 1) (W.alloc (.cells #[.int .i64 o, .int .i32 x, .int .i32 y, .int .i32 vx, .int .i32 vy, .int .i64 l] 108)) := by
  obtain ⟨i, hq, hz, hs, _⟩ := shot_parts
  exact run_buildSlice W _ _ 1 _ _ i _ Try.underlying28 hq hz (by rw [hs]; decide) (by rw [hs]; decide) (by rw [hs]; exact shots1_fill o x y vx vy l)
end Go.Proofs.Ytbihnmingedgfaa
