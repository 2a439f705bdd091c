/-
Bytes that are read one behind the other.
-/
import Derived.Test.YtbihnmingedgfaaNl
namespace Im
open Go
/-- The number that bytes are, the least first. -/
def val (f : Nat → Int) : Nat → Int
  | 0 => 0
  | k + 1 => val f k + f k * 2 ^ (8 * k)
theorem val_lt (f : Nat → Int) (h : ∀ k, 0 ≤ f k ∧ f k ≤ 255) : ∀ k, 0 ≤ val f k ∧ val f k < 2 ^ (8 * k)
  | 0 => by simp [val]
  | k + 1 => by
    have h1 := val_lt f h k
    have h2 := h k
    have hp : (0 : Int) < 2 ^ (8 * k) := Int.pow_pos (by decide)
    have e : (2 : Int) ^ (8 * (k + 1)) = 256 * 2 ^ (8 * k) := by rw [show 8 * (k + 1) = 8 * k + 8 by omega, Int.pow_add]; omega
    unfold val
    rw [e]
    generalize (2 : Int) ^ (8 * k) = p at *
    generalize f k = x at *
    have a1 : 0 ≤ x * p := Int.mul_nonneg h2.1 (Int.le_of_lt hp)
    have a2 : x * p ≤ 255 * p := Int.mul_le_mul_of_nonneg_right h2.2 (Int.le_of_lt hp)
    omega
theorem or_shift (v x : Int) (k : Nat) (hk : k < 8) (hv : 0 ≤ v ∧ v < 2 ^ (8 * k)) (hx : 0 ≤ x ∧ x ≤ 255) : bits .or .u64 v (x * 2 ^ (8 * k)) = v + x * 2 ^ (8 * k) := by
  obtain ⟨V, rfl⟩ := Int.eq_ofNat_of_zero_le hv.1
  obtain ⟨X, rfl⟩ := Int.eq_ofNat_of_zero_le hx.1
  have hp : 2 ^ (8 * k) ≤ 2 ^ 56 := Nat.pow_le_pow_right (by decide) (by omega)
  have hV : V < 2 ^ (8 * k) := by exact_mod_cast hv.2
  have e : (X : Int) * 2 ^ (8 * k) = ((2 ^ (8 * k) * X : Nat) : Int) := by push_cast; rw [Int.mul_comm]
  have hX : 2 ^ (8 * k) * X ≤ 2 ^ (8 * k) * 255 := Nat.mul_le_mul_left _ (by omega)
  rw [e, u64_or_nat _ _ (by omega) (by omega), Nat.or_comm, ← Nat.two_pow_add_eq_or_of_lt hV]
  push_cast
  omega
end Im
namespace Rp
open Go
section
variable {P : Program} {st : List Nat} {E C D : World → Prop} {Q : Act → (World → Prop) → Prop} {o : Oper} {rest : List Oper} {n : Nat} {a : Act}
theorem lex_read (hs : isStore o = false) (hf : isFree o = false) (hl : isLook o = false) {v : Value} (hrun : ∀ w, C w → (execOp a.eval o).run P w = .ok (.value v) w) (h : wpLex P st E Q rest (n + 1) (a.put o.dst v) C D) : wpLex P st E Q (o :: rest) n a C D := by
  unfold wpLex
  rw [if_neg (by simp [hs]), if_neg (by simp [hf]), if_neg (by simp [hl])]
  exact ⟨v, fun w hw => by unfold Gives; rw [hrun w hw]; exact ⟨rfl, hw⟩, h⟩
end
end Rp
namespace Go.Proofs.Ytbihnmingedgfaa
open Go.RowKit Go.Shelf
set_option linter.unusedVariables false
set_option linter.unusedSimpArgs false

/-- What a reader reads from: the variable in block Bb; what is left of the bytes lies below b; the reader holds the variable's place in block Bp. -/
structure Rd (b Bb Bp : Nat) (bs : List Int) (W : World) : Prop where
  ptr : Box W Bp 120 #[.pointer (some ⟨Bb, 0, none⟩)]
  var : ∃ A c, Box W Bb 54 #[.slice A bs.length c] ∧ bs.length ≤ c ∧ Lies W b 1 A bs.length (Im.u8s bs)
section
variable {b Bb Bp : Nat} {bs : List Int} {W W' : World}
theorem Rd.call (h : Rd b Bb Bp bs W) (hb : Below W.heap.size W W') (hs : b ≤ W.heap.size) : Rd b Bb Bp bs W' := by
  obtain ⟨h1, A, c, h2, hc, h3⟩ := h
  exact ⟨h1.below hb h1.lt, A, c, h2.below hb h2.lt, hc, h3.below (hb.mono hs)⟩
theorem Rd.off (h : Rd b Bb Bp bs W) {p : Addr} {t : TypeId} {cs : Array Value} (hp : Box W p.block t cs) (h1 : t ≠ 120) (h2 : t ≠ 54) (hb : b ≤ p.block) (u : Value) : Rd b Bb Bp bs (W.setCell p u) := by
  obtain ⟨k1, A, c, k2, kc, k3⟩ := h
  exact ⟨k1.far (fun e => Box.apart k1 hp (fun e' => h1 e'.symm) e) u, A, c, k2.far (fun e => Box.apart k2 hp (fun e' => h2 e'.symm) e) u, kc, k3.stays fun i hi => heap_setCell_other W p i u (by omega)⟩
theorem Rd.offRow (h : Rd b Bb Bp bs W) {p : Nat} {t : TypeId} {cs : Array Value} (hp : Box W p t cs) (h1 : t ≠ 120) (h2 : t ≠ 54) (hb : b ≤ p) (cs' : Array Value) : Rd b Bb Bp bs (W.setRow p cs') := by
  obtain ⟨k1, A, c, k2, kc, k3⟩ := h
  exact ⟨k1.row_far (fun e => Box.apart k1 hp (fun e' => h1 e'.symm) e) cs', A, c, k2.row_far (fun e => Box.apart k2 hp (fun e' => h2 e'.symm) e) cs', kc, k3.stays fun i hi => setRow_other W p i cs' (by omega)⟩
theorem Rd.isvar (h : Rd b Bb Bp bs W) : ∃ A n c, Box W Bb 54 #[.slice A n c] := by
  obtain ⟨_, A, c, k2, _⟩ := h
  exact ⟨A, _, c, k2⟩
theorem Rd.ne (h : Rd b Bb Bp bs W) : Bp ≠ Bb := by
  obtain ⟨h1, A, c, h2, _⟩ := h
  exact Box.apart h1 h2 (by decide)
end

theorem Lies.rest {w : World} {b k n c : Nat} {ad : Addr} {xs rest : List Int} (h : Lies w b 1 (some ad) n (Im.u8s (xs ++ rest))) (m : Nat) (hx : xs.length = k) (hc : n ≤ c) (hn : n = k + m) : Lies w b 1 (if c = k then some ad else some (ad.add k)) m (Im.u8s rest) := by
  have hl := h.len
  rw [Im.u8s_len, List.length_append, hx] at hl
  have hm : rest.length = m := by omega
  refine ⟨by rw [Im.u8s_len]; omega, fun h0 => ?_, fun ad' e h0 j u hj => ?_⟩
  · rw [if_neg (by omega)]
    obtain ⟨ad2, e2, hb⟩ := h.start (by omega)
    injection e2 with e2
    subst e2
    exact ⟨_, rfl, by rw [add_block]; exact hb⟩
  · rw [if_neg (by omega)] at e
    injection e with e
    subst e
    have := h.cell ad rfl (by omega) (k + j) u (by
      rw [Im.u8s_append, List.getElem?_append_right (by rw [Im.u8s_len]; omega), Im.u8s_len, hx, Nat.add_sub_cancel_left]
      exact hj)
    rw [← this]
    congr 1
    unfold Addr.add
    by_cases hk0 : k = 0 <;> by_cases hj0 : j = 0 <;> simp [hk0, hj0, Nat.add_assoc]

set_option maxRecDepth 100000 in
set_option maxHeartbeats 4000000 in
theorem read_any (size : Nat) (z : Int) (hz : z = size) (v0 : Int) (f : Nat → Int) (xs rest : List Int) (b Bb Bp : Nat) (w : World) (hs : 1 ≤ size ∧ size ≤ 8) (hx : xs.length = size) (hf : ∀ k (h : k < xs.length), xs[k] = f k) (hf2 : ∀ k, 0 ≤ f k ∧ f k ≤ 255) (hbB : b ≤ Bb) (h : Rd b Bb Bp (xs ++ rest) w) :
    Calls Try.prog 130 #[.int .i64 z, .int .u64 v0, .pointer (some ⟨Bp, 0, none⟩)] w fun e w' => e = .returned (.int .u64 (Im.val f size)) ∧ Rd b Bb Bp rest w' ∧ Wrote b Bb w w' := by
  subst hz
  obtain ⟨hP, A, c, hB, hc, hL⟩ := h
  have hlen : (xs ++ rest).length = size + rest.length := by rw [List.length_append, hx]
  rw [hlen] at hB hc hL
  obtain ⟨n, hn⟩ : ∃ n, n = size + rest.length := ⟨_, rfl⟩
  rw [← hn] at hB hc hL
  obtain ⟨ad, rfl, had⟩ := hL.start (by omega)
  have hcell : ∀ k, k < size → w.cell? (ad.add k) = some (.int .u8 (f k)) := fun k hk => hL.cell ad rfl (by omega) k _ (by
    unfold Im.u8s
    rw [List.getElem?_map, List.getElem?_append_left (by omega), List.getElem?_eq_getElem (by omega), hf k (by omega)]; rfl)
  have hsn : (size : Int) ≤ n := by omega
  have hs1 : ∀ W, (Instr.slice 54 (.slice (some ad) n c) none (some (.int .i64 size)) none).run Try.prog W = .ok (.slice (some ad) size c) W := fun W => by
    have h0 : (0 : Int) ≤ size := by omega
    have h2 : (size : Int) ≤ c := by omega
    have hc0 : ¬ c = 0 := by omega
    go_simp
  have hs2 : ∀ W, (Instr.slice 54 (.slice (some ad) n c) (some (.int .i64 size)) none none).run Try.prog W = .ok (.slice (if c = size then some ad else some (ad.add size)) rest.length (c - size)) W := fun W => by
    have h0 : (0 : Int) ≤ size := by omega
    have h2 : (size : Int) ≤ n := by omega
    have hr : n - size = rest.length := by omega
    clear hn hlen
    go_simp
  obtain ⟨A2, hA2⟩ : ∃ A2, A2 = if c = size then some ad else some (ad.add size) := ⟨_, rfl⟩
  rw [← hA2] at hs2
  have HA := Lib.hid hA2
  clear hA2
  have HP := Lib.hid hP
  have HB := Lib.hid hB
  have HL := Lib.hid hL
  have HC := Lib.hid hc
  have HF := Lib.hid hf2
  have HV := Lib.hid (Im.val_lt f hf2)
  have b0 := hB.cell 0
  have p0 := hP.cell 0
  have HN := Lib.hid hn
  have HX := Lib.hid hx
  have HE := Lib.hid (show Bp ≠ Bb from Box.apart hP hB (by decide))
  have HS := Lib.hid hs
  clear hP hB hL hc hn hs hx hf hf2 hlen
  go_enter Try.func130, Try.ntmps130
  go_wp2_with (first | (go_at_call 76; ((with_reducible refine (need_yes _ _).mono ?_); rintro e w2 ⟨rfl, rfl⟩)))
  go_loopw [6, 22] (fun v i wr => ∃ k : Nat, k ≤ size ∧ i = .int .i64 k ∧ v = .int .u64 (Im.val f k) ∧ w = wr) (fun _ i _ => size - (intOf i).toNat)
  case atStart => exact ⟨0, by omega, rfl, rfl, rfl⟩
  case round =>
    obtain ⟨k, hk, rfl, rfl, rfl⟩ := hrel
    by_cases hlt : k < size
    · have hk8 : (k : Int) < size := by omega
      have hck := hcell k hlt
      have h8 : IntKind.i64.wrap (8 * (k : Int)) = 8 * k := by have := HS.out.2; rw [IntKind.wrap_i64]; omega
      have hp0 := HV.out k
      have hfk := HF.out k
      have hsz := HS.out.2
      have hpk : (0 : Int) < 2 ^ (8 * k) := Int.pow_pos (by decide)
      have hwr : IntKind.u64.wrap (f k * 2 ^ (8 * k)) = f k * 2 ^ (8 * k) := by
        have hp : (2 : Nat) ^ (8 * k) ≤ 2 ^ 56 := Nat.pow_le_pow_right (by decide) (by omega)
        have hp' : (2 : Int) ^ (8 * k) ≤ 2 ^ 56 := by exact_mod_cast hp
        have a1 : 0 ≤ f k * 2 ^ (8 * k) := Int.mul_nonneg hfk.1 (Int.le_of_lt hpk)
        have a2 : f k * 2 ^ (8 * k) ≤ 255 * 2 ^ (8 * k) := Int.mul_le_mul_of_nonneg_right hfk.2 (Int.le_of_lt hpk)
        rw [IntKind.wrap_u64]
        generalize f k * 2 ^ (8 * k) = y at *
        omega
      have hor := Im.or_shift (Im.val f k) (f k) k (by omega) hp0 hfk
      have hnext : bits .or .u64 (Im.val f k) (IntKind.u64.wrap (f k * 2 ^ (8 * k))) = Im.val f (k + 1) := by rw [hwr, hor]; rfl
      have HW := Lib.hid hnext
      obtain ⟨vk, hvk⟩ : ∃ vk, vk = Im.val f k := ⟨_, rfl⟩
      rw [← hvk] at HW
      rw [← hvk]
      clear hvk hnext hp0 hpk hor hwr
      go_wp2
      go_roundw
      case rel => exact ⟨k + 1, by omega, by go_num, by rw [HW.out], by first | rfl | trivial⟩
      case measure => simp [intOf]; omega
    · have hk8 : ¬ (k : Int) < size := by omega
      obtain rfl : k = size := by omega
      go_upto_region 8 with fail
      refine Rp.wp_region_lex (by kernel_rfl) [] (by kernel_rfl) (· = w.drew) (fun W => Box W Bp 120 #[.pointer (some ⟨Bb, 0, none⟩)] ∧ Box W Bb 54 #[.slice (some ad) n c]) (fun _ => True) rfl (fun W hW => ⟨hW ▸ ⟨HP.out.drew, HB.out.drew⟩, trivial⟩) ?_
      repeat (first
        | (apply Rp.lex_free rfl rfl; focus (intro _; go_simp; first | done | rfl))
        | (apply Rp.lex_look rfl rfl rfl rfl; focus (intro W hW; obtain ⟨hW1, hW2⟩ := hW; have c0 := Box.cell hW1; have c1 := Box.cell hW2; clear hW1 hW2; go_simp; first | done | rfl)))
      refine Rp.lex_read rfl rfl rfl (v := .slice A2 rest.length (c - k)) (fun W hW => ?_) ?_
      focus (go_simp; first | done | rfl)
      repeat (first
        | (apply Rp.lex_free rfl rfl; focus (intro _; go_simp; first | done | rfl))
        | (apply Rp.lex_look rfl rfl rfl rfl; focus (intro W hW; obtain ⟨hW1, hW2⟩ := hW; have c0 := Box.cell hW1; have c1 := Box.cell hW2; clear hW1 hW2; go_simp; first | done | rfl)))
      refine Rp.lex_store rfl rfl (C' := (· = w.drew.setCell ⟨Bb, 0, none⟩ (.slice A2 rest.length (c - k)))) (D' := fun _ => True) (fun W hW => ⟨_, ?_, rfl⟩) (fun _ _ => ⟨trivial, trivial⟩) ?_
      focus (subst hW; have f2 := HB.out.drew.free; have k2 := HB.out.drew.cell; go_simp; first | done | rfl)
      refine Rp.lex_end fun W2 hW2 => ?_
      have HH : Rd b Bb Bp rest W2 := by
        subst hW2
        refine ⟨HP.out.drew.far (p := ⟨Bb, 0, none⟩) HE.out _, _, c - k, HB.out.drew.put 0 _, by have := HN.out; have := HC.out; omega, ?_⟩
        rw [HA.out]
        refine (HL.out.rest rest.length (by rw [HX.out]) HC.out HN.out).stays fun i hi => ?_
        exact heap_setCell_other w.drew ⟨Bb, 0, none⟩ i _ (by show i ≠ Bb; omega)
      have HK : Wrote b Bb w W2 := by subst hW2; exact (Wrote.refl hbB w).drew.put 0 _
      have H2 := Lib.hid HH
      have K2 := Lib.hid HK
      clear HH HK hW2
      go_wp2
      go_ret
      exact ⟨rfl, H2.out, K2.out⟩
end Go.Proofs.Ytbihnmingedgfaa
