/-
Whatever bytes are read: numbers, or the end comes too soon.
-/
import Derived.Test.YtbihnmingedgfaaIn
import Derived.Test.YtbihnmingedgfaaNw
namespace Im
open Go
def IsBytes (bs : List Int) : Prop := ∀ x ∈ bs, 0 ≤ x ∧ x ≤ 255
theorem IsBytes.nil : IsBytes [] := fun _ h => by cases h
theorem IsBytes.drop {bs : List Int} (h : IsBytes bs) (n : Nat) : IsBytes (bs.drop n) := fun x hx => h x (List.mem_of_mem_drop hx)
theorem IsBytes.take {bs : List Int} (h : IsBytes bs) (n : Nat) : IsBytes (bs.take n) := fun x hx => h x (List.mem_of_mem_take hx)
theorem IsBytes.app {bs cs : List Int} (h : IsBytes bs) (k : IsBytes cs) : IsBytes (bs ++ cs) := fun x hx => by
  rcases List.mem_append.1 hx with hx | hx
  · exact h x hx
  · exact k x hx
theorem IsBytes.get {bs : List Int} (h : IsBytes bs) (k : Nat) : 0 ≤ bs.getD k 0 ∧ bs.getD k 0 ≤ 255 := by
  by_cases hk : k < bs.length
  · have e : bs.getD k 0 = bs[k] := by simp [List.getD, hk]
    rw [e]
    exact h _ (List.getElem_mem hk)
  · have e : bs.getD k 0 = 0 := by simp [List.getD, List.getElem?_eq_none (show bs.length ≤ k by omega)]
    rw [e]
    omega
theorem bytesOf_bytes : ∀ (n : Nat) (v : Int), IsBytes (bytesOf n v)
  | 0, _ => IsBytes.nil
  | n + 1, v => by
    unfold bytesOf
    refine (bytesOf_bytes n v).app fun x hx => ?_
    obtain rfl := List.mem_singleton.1 hx
    omega
theorem val_congr {f g : Nat → Int} : ∀ n, (∀ k, k < n → f k = g k) → val f n = val g n
  | 0, _ => rfl
  | n + 1, h => by unfold val; rw [val_congr n fun k hk => h k (by omega), h n (by omega)]
theorem byte_val (f : Nat → Int) (h : ∀ k, 0 ≤ f k ∧ f k ≤ 255) : ∀ n k, k < n → byte (val f n) k = f k
  | 0, k, hk => by omega
  | n + 1, k, hk => by
    unfold val byte
    have hf := h k
    by_cases e : k = n
    · subst e
      have hv := val_lt f h k
      have hp : (0 : Int) < 2 ^ (8 * k) := Int.pow_pos (by decide)
      generalize (2 : Int) ^ (8 * k) = p at *
      rw [Int.add_mul_ediv_right _ _ (by omega), Int.ediv_eq_zero_of_lt hv.1 hv.2]
      omega
    · have ih := byte_val f h n k (by omega)
      unfold byte at ih
      have hp : (0 : Int) < 2 ^ (8 * k) := Int.pow_pos (by decide)
      have ep : (2 : Int) ^ (8 * n) = 256 * 2 ^ (8 * (n - k - 1)) * 2 ^ (8 * k) := by
        rw [Int.mul_assoc, ← Int.pow_add, show (256 : Int) = 2 ^ 8 from rfl, ← Int.pow_add]
        congr 1
        omega
      rw [ep]
      generalize (2 : Int) ^ (8 * k) = p at *
      generalize (2 : Int) ^ (8 * (n - k - 1)) = q at *
      rw [show f n * (256 * q * p) = (f n * q * 256) * p by grind, Int.add_mul_ediv_right _ _ (by omega), Int.add_mul_emod_self_right]
      exact ih
/-- A number of n bytes is read, if they are there. -/
def rdn (n : Nat) (bs : List Int) : Option (Int × List Int) := if n ≤ bs.length then some (val (fun k => bs.getD k 0) n, bs.drop n) else none
theorem rdn_bytes (n : Nat) (v : Int) (rest : List Int) : rdn n (bytesOf n v ++ rest) = some (v % 2 ^ (8 * n), rest) := by
  unfold rdn
  rw [if_pos (by rw [List.length_append, bytesOf_len]; omega)]
  congr 2
  · rw [← val_byte v n]
    refine val_congr n fun k hk => ?_
    have e : (bytesOf n v ++ rest)[k]? = some (byte v k) := by rw [List.getElem?_append_left (by rw [bytesOf_len]; exact hk), bytesOf_at? n v k hk]
    simp [List.getD, e]
  · have := bytesOf_len n v
    simp [this]
theorem rdn_inv {n : Nat} {bs : List Int} {y : Int} {rest : List Int} (h : IsBytes bs) (e : rdn n bs = some (y, rest)) : bs = bytesOf n y ++ rest ∧ 0 ≤ y ∧ y < 2 ^ (8 * n) ∧ IsBytes rest := by
  unfold rdn at e
  by_cases hl : n ≤ bs.length
  · rw [if_pos hl] at e
    injection e with e
    injection e with e1 e2
    subst e1 e2
    have hb := val_lt (fun k => bs.getD k 0) h.get n
    refine ⟨?_, hb.1, hb.2, h.drop n⟩
    have e : bytesOf n (val (fun k => bs.getD k 0) n) = bs.take n := by
      apply List.ext_getElem?
      intro k
      by_cases hk : k < n
      · rw [bytesOf_at? n _ k hk, byte_val _ h.get n k hk, List.getElem?_take, if_pos hk]
        simp [List.getD, List.getElem?_eq_getElem (show k < bs.length by omega)]
      · rw [List.getElem?_eq_none (by rw [bytesOf_len]; omega), List.getElem?_eq_none (by rw [List.length_take]; omega)]
    rw [e, List.take_append_drop]
  · rw [if_neg hl] at e
    cases e
theorem rdn_none {n : Nat} {bs : List Int} (e : rdn n bs = none) : bs.length < n := by
  unfold rdn at e
  by_cases hl : n ≤ bs.length
  · rw [if_pos hl] at e; cases e
  · omega
theorem rdn_few {n : Nat} {bs : List Int} (h : bs.length < n) : rdn n bs = none := by unfold rdn; rw [if_neg (by omega)]
end Im
namespace Go.Proofs.Ytbihnmingedgfaa
open Go.RowKit Go.Shelf
set_option linter.unusedVariables false
set_option linter.unusedSimpArgs false

/-- Something was thrown, in words. -/
def Pan (e : Ending) : Prop := ∃ s : ByteArray, e = .panicked [{ v := .iface 9 (.string s), recovered := false }]
/-- What a layout leaves that reads into block P: what was read stands there, and the reader is behind it; or it was thrown. -/
def Got {α : Type} (b Bb Bp P : Nat) (t : TypeId) (size : Nat) (r : Option (α × List Int)) (f : α → Array Value) (w : World) (e : Ending) (w' : World) : Prop :=
  (∃ v rest, r = some (v, rest) ∧ e = .returned (.tuple #[]) ∧ Rd b Bb Bp rest w' ∧ Rk b Bb P w w' ∧ Box w' P t (f v)) ∨ (r = none ∧ Pan e ∧ Rk b Bb P w w' ∧ ∃ cs', Box w' P t cs' ∧ cs'.size = size)

theorem read_few (size : Nat) (z : Int) (hz : z = size) (v0 : Int) (bs : List Int) (b Bb Bp : Nat) (w : World) (hl : bs.length < size) (h : Rd b Bb Bp bs w) :
    Calls Try.prog 130 #[.int .i64 z, .int .u64 v0, .pointer (some ⟨Bp, 0, none⟩)] w fun e w' => Pan e ∧ w = w' := by
  obtain ⟨hp, A, c, hb, _, _⟩ := h
  have b0 := hb.cell 0
  have p0 := hp.cell 0
  have hz0 : ¬ z ≤ (bs.length : Int) := by omega
  generalize bs.length = n at *
  clear hb hp hl hz
  go_enter Try.func130, Try.ntmps130
  go_wp2_with (go_at_call 76; ((with_reducible refine (need_no _ _).mono ?_); rintro e w2 ⟨rfl, rfl⟩))
  first | exact ⟨rfl, ⟨_, rfl⟩, rfl⟩ | exact ⟨⟨_, rfl⟩, rfl⟩

theorem read_all (size : Nat) (z : Int) (hz : z = size) (v0 y : Int) (bs rest : List Int) (b Bb Bp : Nat) (w : World) (hs : 1 ≤ size ∧ size ≤ 8) (hB : Im.IsBytes bs) (hr : Im.rdn size bs = some (y, rest)) (hbB : b ≤ Bb) (h : Rd b Bb Bp bs w) :
    Calls Try.prog 130 #[.int .i64 z, .int .u64 v0, .pointer (some ⟨Bp, 0, none⟩)] w fun e w' => e = .returned (.int .u64 y) ∧ Rd b Bb Bp rest w' ∧ Wrote b Bb w w' := by
  obtain ⟨e, h0, h1, _⟩ := Im.rdn_inv hB hr
  subst e
  have := read_num size z hz v0 y rest b Bb Bp w hs hbB h
  rwa [Int.emod_eq_of_lt h0 h1] at this
set_option maxRecDepth 100000 in
set_option maxHeartbeats 1000000 in
theorem part_int (size : Nat) (z : Int) (hz : z = size) (x0 : Int) (P o : Nat) (t : TypeId) (cs : Array Value) (bs : List Int) (b Bb Bp : Nat) (w : World) (hs : 1 ≤ size ∧ size ≤ 4) (hBy : Im.IsBytes bs) (hbB : b ≤ Bb) (hbP : b ≤ P) (hbw : b ≤ w.heap.size) (h : Rd b Bb Bp bs w) (hP : Box w P t cs) (ho : cs[o]? = some (.int .i64 x0)) (h1 : t ≠ 54) (h2 : t ≠ 5) (h3 : t ≠ 120) :
    Calls Try.prog 124 #[.func (.func 130) #[] #[.pointer (some ⟨Bp, 0, none⟩)], .int .i64 z, .pointer (some ⟨P, o, none⟩)] w (Got b Bb Bp P t cs.size (Im.rdn size bs) (fun y => cs.setIfInBounds o (.int .i64 (y))) w) := by
  subst hz
  have HP := Lib.hid hP
  have k0 := hP.cell o
  rw [ho] at k0
  cases hr : Im.rdn size bs with
  | none =>
    have cr := fun v0 => Lib.hid (read_few size size rfl v0 bs b Bb Bp w (Im.rdn_none hr) h)
    clear h hP ho hs hr
    go_enter Try.func124, Try.ntmps124
    go_wp2_with (go_at_call 130; ((with_reducible refine ((cr _).out).mono ?_); rintro e w2 ⟨⟨s, rfl⟩, rfl⟩))
    first | exact ⟨rfl, .inr ⟨rfl, ⟨_, rfl⟩, Rk.refl _ _ _ _, _, HP.out, rfl⟩⟩ | exact .inr ⟨rfl, ⟨_, rfl⟩, Rk.refl _ _ _ _, _, HP.out, rfl⟩
  | some q =>
    obtain ⟨y, rest⟩ := q
    obtain ⟨_, y0, y1, _⟩ := Im.rdn_inv hBy hr
    have y2 : y < 2 ^ (8 * 4) := Int.lt_of_lt_of_le y1 (by have := Nat.pow_le_pow_right (show 0 < 2 by decide) (show 8 * size ≤ 8 * 4 by omega); exact_mod_cast this)
    have hwb : IntKind.i64.wrap y = y := by rw [IntKind.wrap_i64]; omega
    have cr := fun v0 => Lib.hid (read_all size size rfl v0 y bs rest b Bb Bp w (by omega) hBy hr hbB h)
    have HH := Lib.hid h.isvar
    have HO := Lib.hid ho
    have HB := Lib.hid hbP
    clear h hP ho hr y0 y1 y2
    go_enter Try.func124, Try.ntmps124
    go_wp2_with (go_at_call 130; ((with_reducible refine ((cr _).out).mono ?_); rintro e w1 ⟨rfl, hI1, hK1⟩; have P1 := Lib.hid (HP.out.wrote' hK1 HH.out h1 h2); have I1 := Lib.hid hI1; have K1 := Lib.hid hK1; have k1 := P1.out.cell o; rw [HO.out] at k1; have f1 := P1.out.free o; clear hI1 hK1 k0))
    go_end0
    exact .inl ⟨y, rest, rfl, rfl, I1.out.off (p := ⟨P, o, none⟩) P1.out h3 h1 HB.out _, ⟨(K1.out.to hbw).setCell HB.out _, ((Kb.refl (B := P) w).wrote K1.out HH.out).put o _⟩, by show Box _ _ _ (cs.setIfInBounds o (.int .i64 (y))); (try rw [hwb]); exact P1.out.put o _⟩
set_option maxRecDepth 100000 in
set_option maxHeartbeats 1000000 in
theorem part_u64 (size : Nat) (z : Int) (hz : z = size) (x0 : Int) (P o : Nat) (t : TypeId) (cs : Array Value) (bs : List Int) (b Bb Bp : Nat) (w : World) (hs : 1 ≤ size ∧ size ≤ 8) (hBy : Im.IsBytes bs) (hbB : b ≤ Bb) (hbP : b ≤ P) (hbw : b ≤ w.heap.size) (h : Rd b Bb Bp bs w) (hP : Box w P t cs) (ho : cs[o]? = some (.int .u64 x0)) (h1 : t ≠ 54) (h2 : t ≠ 5) (h3 : t ≠ 120) :
    Calls Try.prog 125 #[.func (.func 130) #[] #[.pointer (some ⟨Bp, 0, none⟩)], .int .i64 z, .pointer (some ⟨P, o, none⟩)] w (Got b Bb Bp P t cs.size (Im.rdn size bs) (fun y => cs.setIfInBounds o (.int .u64 (y))) w) := by
  subst hz
  have HP := Lib.hid hP
  have k0 := hP.cell o
  rw [ho] at k0
  cases hr : Im.rdn size bs with
  | none =>
    have cr := fun v0 => Lib.hid (read_few size size rfl v0 bs b Bb Bp w (Im.rdn_none hr) h)
    clear h hP ho hs hr
    go_enter Try.func125, Try.ntmps125
    go_wp2_with (go_at_call 130; ((with_reducible refine ((cr _).out).mono ?_); rintro e w2 ⟨⟨s, rfl⟩, rfl⟩))
    first | exact ⟨rfl, .inr ⟨rfl, ⟨_, rfl⟩, Rk.refl _ _ _ _, _, HP.out, rfl⟩⟩ | exact .inr ⟨rfl, ⟨_, rfl⟩, Rk.refl _ _ _ _, _, HP.out, rfl⟩
  | some q =>
    obtain ⟨y, rest⟩ := q
    obtain ⟨_, y0, y1, _⟩ := Im.rdn_inv hBy hr
    have y2 : y < 2 ^ (8 * 8) := Int.lt_of_lt_of_le y1 (by have := Nat.pow_le_pow_right (show 0 < 2 by decide) (show 8 * size ≤ 8 * 8 by omega); exact_mod_cast this)
    have hwb : IntKind.u64.wrap y = y := by rw [IntKind.wrap_u64]; omega
    have cr := fun v0 => Lib.hid (read_all size size rfl v0 y bs rest b Bb Bp w (by omega) hBy hr hbB h)
    have HH := Lib.hid h.isvar
    have HO := Lib.hid ho
    have HB := Lib.hid hbP
    clear h hP ho hr y0 y1 y2
    go_enter Try.func125, Try.ntmps125
    go_wp2_with (go_at_call 130; ((with_reducible refine ((cr _).out).mono ?_); rintro e w1 ⟨rfl, hI1, hK1⟩; have P1 := Lib.hid (HP.out.wrote' hK1 HH.out h1 h2); have I1 := Lib.hid hI1; have K1 := Lib.hid hK1; have k1 := P1.out.cell o; rw [HO.out] at k1; have f1 := P1.out.free o; clear hI1 hK1 k0))
    go_end0
    exact .inl ⟨y, rest, rfl, rfl, I1.out.off (p := ⟨P, o, none⟩) P1.out h3 h1 HB.out _, ⟨(K1.out.to hbw).setCell HB.out _, ((Kb.refl (B := P) w).wrote K1.out HH.out).put o _⟩, by show Box _ _ _ (cs.setIfInBounds o (.int .u64 (y))); (try rw [hwb]); exact P1.out.put o _⟩
set_option maxRecDepth 100000 in
set_option maxHeartbeats 1000000 in
theorem part_i32 (size : Nat) (z : Int) (hz : z = size) (x0 : Int) (P o : Nat) (t : TypeId) (cs : Array Value) (bs : List Int) (b Bb Bp : Nat) (w : World) (hs : 1 ≤ size ∧ size ≤ 4) (hBy : Im.IsBytes bs) (hbB : b ≤ Bb) (hbP : b ≤ P) (hbw : b ≤ w.heap.size) (h : Rd b Bb Bp bs w) (hP : Box w P t cs) (ho : cs[o]? = some (.int .i32 x0)) (h1 : t ≠ 54) (h2 : t ≠ 5) (h3 : t ≠ 120) :
    Calls Try.prog 161 #[.func (.func 130) #[] #[.pointer (some ⟨Bp, 0, none⟩)], .int .i64 z, .pointer (some ⟨P, o, none⟩)] w (Got b Bb Bp P t cs.size (Im.rdn size bs) (fun y => cs.setIfInBounds o (.int .i32 (IntKind.i32.wrap y))) w) := by
  subst hz
  have HP := Lib.hid hP
  have k0 := hP.cell o
  rw [ho] at k0
  cases hr : Im.rdn size bs with
  | none =>
    have cr := fun v0 => Lib.hid (read_few size size rfl v0 bs b Bb Bp w (Im.rdn_none hr) h)
    clear h hP ho hs hr
    go_enter Try.func161, Try.ntmps161
    go_wp2_with (go_at_call 130; ((with_reducible refine ((cr _).out).mono ?_); rintro e w2 ⟨⟨s, rfl⟩, rfl⟩))
    first | exact ⟨rfl, .inr ⟨rfl, ⟨_, rfl⟩, Rk.refl _ _ _ _, _, HP.out, rfl⟩⟩ | exact .inr ⟨rfl, ⟨_, rfl⟩, Rk.refl _ _ _ _, _, HP.out, rfl⟩
  | some q =>
    obtain ⟨y, rest⟩ := q
    obtain ⟨_, y0, y1, _⟩ := Im.rdn_inv hBy hr
    have y2 : y < 2 ^ (8 * 4) := Int.lt_of_lt_of_le y1 (by have := Nat.pow_le_pow_right (show 0 < 2 by decide) (show 8 * size ≤ 8 * 4 by omega); exact_mod_cast this)
    obtain ⟨qy, hwb⟩ : ∃ qy, IntKind.i32.wrap y = qy := ⟨_, rfl⟩
    have cr := fun v0 => Lib.hid (read_all size size rfl v0 y bs rest b Bb Bp w (by omega) hBy hr hbB h)
    have HH := Lib.hid h.isvar
    have HO := Lib.hid ho
    have HB := Lib.hid hbP
    clear h hP ho hr y0 y1 y2
    go_enter Try.func161, Try.ntmps161
    go_wp2_with (go_at_call 130; ((with_reducible refine ((cr _).out).mono ?_); rintro e w1 ⟨rfl, hI1, hK1⟩; have P1 := Lib.hid (HP.out.wrote' hK1 HH.out h1 h2); have I1 := Lib.hid hI1; have K1 := Lib.hid hK1; have k1 := P1.out.cell o; rw [HO.out] at k1; have f1 := P1.out.free o; clear hI1 hK1 k0))
    go_end0
    exact .inl ⟨y, rest, rfl, rfl, I1.out.off (p := ⟨P, o, none⟩) P1.out h3 h1 HB.out _, ⟨(K1.out.to hbw).setCell HB.out _, ((Kb.refl (B := P) w).wrote K1.out HH.out).put o _⟩, by show Box _ _ _ (cs.setIfInBounds o (.int .i32 (IntKind.i32.wrap y))); (try rw [hwb]); exact P1.out.put o _⟩
set_option maxRecDepth 100000 in
set_option maxHeartbeats 1000000 in
theorem part_i8 (size : Nat) (z : Int) (hz : z = size) (x0 : Int) (P o : Nat) (t : TypeId) (cs : Array Value) (bs : List Int) (b Bb Bp : Nat) (w : World) (hs : 1 ≤ size ∧ size ≤ 1) (hBy : Im.IsBytes bs) (hbB : b ≤ Bb) (hbP : b ≤ P) (hbw : b ≤ w.heap.size) (h : Rd b Bb Bp bs w) (hP : Box w P t cs) (ho : cs[o]? = some (.int .i8 x0)) (h1 : t ≠ 54) (h2 : t ≠ 5) (h3 : t ≠ 120) :
    Calls Try.prog 162 #[.func (.func 130) #[] #[.pointer (some ⟨Bp, 0, none⟩)], .int .i64 z, .pointer (some ⟨P, o, none⟩)] w (Got b Bb Bp P t cs.size (Im.rdn size bs) (fun y => cs.setIfInBounds o (.int .i8 (IntKind.i8.wrap y))) w) := by
  subst hz
  have HP := Lib.hid hP
  have k0 := hP.cell o
  rw [ho] at k0
  cases hr : Im.rdn size bs with
  | none =>
    have cr := fun v0 => Lib.hid (read_few size size rfl v0 bs b Bb Bp w (Im.rdn_none hr) h)
    clear h hP ho hs hr
    go_enter Try.func162, Try.ntmps162
    go_wp2_with (go_at_call 130; ((with_reducible refine ((cr _).out).mono ?_); rintro e w2 ⟨⟨s, rfl⟩, rfl⟩))
    first | exact ⟨rfl, .inr ⟨rfl, ⟨_, rfl⟩, Rk.refl _ _ _ _, _, HP.out, rfl⟩⟩ | exact .inr ⟨rfl, ⟨_, rfl⟩, Rk.refl _ _ _ _, _, HP.out, rfl⟩
  | some q =>
    obtain ⟨y, rest⟩ := q
    obtain ⟨_, y0, y1, _⟩ := Im.rdn_inv hBy hr
    have y2 : y < 2 ^ (8 * 1) := Int.lt_of_lt_of_le y1 (by have := Nat.pow_le_pow_right (show 0 < 2 by decide) (show 8 * size ≤ 8 * 1 by omega); exact_mod_cast this)
    obtain ⟨qy, hwb⟩ : ∃ qy, IntKind.i8.wrap y = qy := ⟨_, rfl⟩
    have cr := fun v0 => Lib.hid (read_all size size rfl v0 y bs rest b Bb Bp w (by omega) hBy hr hbB h)
    have HH := Lib.hid h.isvar
    have HO := Lib.hid ho
    have HB := Lib.hid hbP
    clear h hP ho hr y0 y1 y2
    go_enter Try.func162, Try.ntmps162
    go_wp2_with (go_at_call 130; ((with_reducible refine ((cr _).out).mono ?_); rintro e w1 ⟨rfl, hI1, hK1⟩; have P1 := Lib.hid (HP.out.wrote' hK1 HH.out h1 h2); have I1 := Lib.hid hI1; have K1 := Lib.hid hK1; have k1 := P1.out.cell o; rw [HO.out] at k1; have f1 := P1.out.free o; clear hI1 hK1 k0))
    go_end0
    exact .inl ⟨y, rest, rfl, rfl, I1.out.off (p := ⟨P, o, none⟩) P1.out h3 h1 HB.out _, ⟨(K1.out.to hbw).setCell HB.out _, ((Kb.refl (B := P) w).wrote K1.out HH.out).put o _⟩, by show Box _ _ _ (cs.setIfInBounds o (.int .i8 (IntKind.i8.wrap y))); (try rw [hwb]); exact P1.out.put o _⟩
set_option maxRecDepth 100000 in
set_option maxHeartbeats 1000000 in
theorem part_u8 (size : Nat) (z : Int) (hz : z = size) (x0 : Int) (P o : Nat) (t : TypeId) (cs : Array Value) (bs : List Int) (b Bb Bp : Nat) (w : World) (hs : 1 ≤ size ∧ size ≤ 1) (hBy : Im.IsBytes bs) (hbB : b ≤ Bb) (hbP : b ≤ P) (hbw : b ≤ w.heap.size) (h : Rd b Bb Bp bs w) (hP : Box w P t cs) (ho : cs[o]? = some (.int .u8 x0)) (h1 : t ≠ 54) (h2 : t ≠ 5) (h3 : t ≠ 120) :
    Calls Try.prog 163 #[.func (.func 130) #[] #[.pointer (some ⟨Bp, 0, none⟩)], .int .i64 z, .pointer (some ⟨P, o, none⟩)] w (Got b Bb Bp P t cs.size (Im.rdn size bs) (fun y => cs.setIfInBounds o (.int .u8 (y))) w) := by
  subst hz
  have HP := Lib.hid hP
  have k0 := hP.cell o
  rw [ho] at k0
  cases hr : Im.rdn size bs with
  | none =>
    have cr := fun v0 => Lib.hid (read_few size size rfl v0 bs b Bb Bp w (Im.rdn_none hr) h)
    clear h hP ho hs hr
    go_enter Try.func163, Try.ntmps163
    go_wp2_with (go_at_call 130; ((with_reducible refine ((cr _).out).mono ?_); rintro e w2 ⟨⟨s, rfl⟩, rfl⟩))
    first | exact ⟨rfl, .inr ⟨rfl, ⟨_, rfl⟩, Rk.refl _ _ _ _, _, HP.out, rfl⟩⟩ | exact .inr ⟨rfl, ⟨_, rfl⟩, Rk.refl _ _ _ _, _, HP.out, rfl⟩
  | some q =>
    obtain ⟨y, rest⟩ := q
    obtain ⟨_, y0, y1, _⟩ := Im.rdn_inv hBy hr
    have y2 : y < 2 ^ (8 * 1) := Int.lt_of_lt_of_le y1 (by have := Nat.pow_le_pow_right (show 0 < 2 by decide) (show 8 * size ≤ 8 * 1 by omega); exact_mod_cast this)
    have hwb : IntKind.u8.wrap y = y := by rw [IntKind.wrap_u8]; omega
    have cr := fun v0 => Lib.hid (read_all size size rfl v0 y bs rest b Bb Bp w (by omega) hBy hr hbB h)
    have HH := Lib.hid h.isvar
    have HO := Lib.hid ho
    have HB := Lib.hid hbP
    clear h hP ho hr y0 y1 y2
    go_enter Try.func163, Try.ntmps163
    go_wp2_with (go_at_call 130; ((with_reducible refine ((cr _).out).mono ?_); rintro e w1 ⟨rfl, hI1, hK1⟩; have P1 := Lib.hid (HP.out.wrote' hK1 HH.out h1 h2); have I1 := Lib.hid hI1; have K1 := Lib.hid hK1; have k1 := P1.out.cell o; rw [HO.out] at k1; have f1 := P1.out.free o; clear hI1 hK1 k0))
    go_end0
    exact .inl ⟨y, rest, rfl, rfl, I1.out.off (p := ⟨P, o, none⟩) P1.out h3 h1 HB.out _, ⟨(K1.out.to hbw).setCell HB.out _, ((Kb.refl (B := P) w).wrote K1.out HH.out).put o _⟩, by show Box _ _ _ (cs.setIfInBounds o (.int .u8 (y))); (try rw [hwb]); exact P1.out.put o _⟩
end Go.Proofs.Ytbihnmingedgfaa
