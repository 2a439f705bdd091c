/-
The program's entry: inputs and events are put (by the writer).
-/
import Derived.Test.YtbihnmingedgfaaEe
import Derived.Test.YtbihnmingedgfaaRp
namespace En
open Go
theorem and_bit : ∀ (m : Fin 256) (k : Fin 8), bits .and .i64 ((m.val : Nat) : Int) (IntKind.i64.wrap (2 ^ k.val)) = if m.val.testBit k.val then (2 : Int) ^ k.val else 0 := by decide +kernel
theorem or_bit : ∀ (m : Fin 256) (k : Fin 8), m.val < 2 ^ k.val → bits .or .i64 ((m.val : Nat) : Int) (IntKind.i64.wrap (2 ^ k.val)) = ((m.val + 2 ^ k.val : Nat) : Int) := by decide +kernel
theorem and_yes {m k : Nat} (hm : m < 256) (hk : k < 8) (h : m.testBit k = true) : ∃ q : Int, bits .and .i64 (m : Int) (RowKit.wrap64 (2 ^ k)) = q ∧ (q != 0) = true := by
  have := and_bit ⟨m, hm⟩ ⟨k, hk⟩
  dsimp only at this
  rw [h, IntWalk.i64_left] at this
  refine ⟨_, this, ?_⟩
  have hp : (0 : Int) < 2 ^ k := Int.pow_pos (by decide)
  simp only [if_true, bne_iff_ne, ne_eq]
  omega
theorem and_no {m k : Nat} (hm : m < 256) (hk : k < 8) (h : m.testBit k = false) : ∃ q : Int, bits .and .i64 (m : Int) (RowKit.wrap64 (2 ^ k)) = q ∧ (q != 0) = false := by
  have := and_bit ⟨m, hm⟩ ⟨k, hk⟩
  dsimp only at this
  rw [h, IntWalk.i64_left] at this
  exact ⟨_, this, rfl⟩
end En
namespace Go.Proofs.Ytbihnmingedgfaa
open Go.RowKit Go.Shelf
set_option linter.unusedVariables false
set_option linter.unusedSimpArgs false

theorem in_neq (x y b : Int) (w : World) : (binOp .neq 37 (.agg #[.int .i8 x, .int .i8 y, .int .u8 b]) (.agg #[.int .i8 0, .int .i8 0, .int .u8 0])).run Try.prog w = .ok (.bool (!En.zero ⟨x, y, b⟩)) w := by
  have h : (Op.equalIn 10000 37 (.agg #[.int .i8 x, .int .i8 y, .int .u8 b]) (.agg #[.int .i8 0, .int .i8 0, .int .u8 0])).run Try.prog w = .ok (En.zero ⟨x, y, b⟩) w := by
    by_cases h1 : x = 0
    · by_cases h2 : y = 0
      · by_cases h3 : b = 0
        · subst h1 h2 h3; go_simp <;> simp [En.zero]
        · have h4 : (b == 0) = false := by simpa using h3
          subst h1 h2; go_simp <;> simp [h4, h3, En.zero]
      · have h4 : (y == 0) = false := by simpa using h2
        subst h1; go_simp <;> simp [h4, h2, En.zero]
    · have h4 : (x == 0) = false := by simpa using h1
      go_simp <;> simp [h4, h1, En.zero]
  generalize #[Value.int .i8 x, .int .i8 y, .int .u8 b] = F at *
  generalize #[Value.int .i8 0, .int .i8 0, .int .u8 0] = G at *
  go_simp

set_option maxRecDepth 100000 in
set_option maxHeartbeats 2000000 in
theorem layinput_w (p : Gm.In) (P o : Nat) (t : TypeId) (cs : Array Value) (bs : List Int) (b Bb Bp : Nat) (w : World) (hty : Gm.tyIn p) (hz : En.zero p = false) (hbB : b ≤ Bb) (h : Wr b Bb Bp bs w) (hl : bs.length + 3 ≤ 65536) (hP : Box w P t cs) (hc : ∀ j, j < 3 → cs[o + j]? = p.cells[j]?) (h1 : t ≠ 54) (h2 : t ≠ 5) (h3 : t ≠ 120) :
    Calls Try.prog 154 #[.func (.func 129) #[] #[.pointer (some ⟨Bp, 0, none⟩)], .pointer (some ⟨P, o, none⟩)] w fun e w' => e = .returned (.tuple #[]) ∧ Wr b Bb Bp (bs ++ En.inBytes p) w' ∧ Wrote b Bb w w' := by
  obtain ⟨x, y, u⟩ := p
  have hneq := fun W => in_neq x y u W
  rw [hz] at hneq
  obtain ⟨t1, t2, t3⟩ := hty
  dsimp only at t1 t2 t3
  have s0 := hc 0 (by omega)
  have s1 := hc 1 (by omega)
  have s2 := hc 2 (by omega)
  simp only [Gm.In.cells, List.getElem?_cons_zero, List.getElem?_cons_succ, Nat.add_zero] at s0 s1 s2
  have c1 := Lib.hid (layi8_w 1 1 rfl x P o t cs bs b Bb Bp w (by decide) t1 hbB h (by omega) hP s0 h1 h2 h3)
  have c2 := fun X (hX : Wr b Bb Bp (bs ++ Im.bytesOf 1 (IntKind.u64.wrap x)) X) hB => Lib.hid (layi8_w 1 1 rfl y P (o + 1) t cs _ b Bb Bp X (by decide) t2 hbB hX (by rw [List.length_append, Im.bytesOf_len]; omega) hB s1 h1 h2 h3)
  have c3 := fun X (hX : Wr b Bb Bp (bs ++ Im.bytesOf 1 (IntKind.u64.wrap x) ++ Im.bytesOf 1 (IntKind.u64.wrap y)) X) hB => Lib.hid (layu8_w 1 1 rfl u P (o + 2) t cs _ b Bb Bp X (by decide) t3 hbB hX (by rw [List.length_append, List.length_append, Im.bytesOf_len, Im.bytesOf_len]; omega) hB s2 h1 h2 h3)
  have HH := Lib.hid h
  have P0 := Lib.hid hP
  have ltP := hP.lt
  have HE := Lib.hid (show bs ++ Im.bytesOf 1 (IntKind.u64.wrap x) ++ Im.bytesOf 1 (IntKind.u64.wrap y) ++ Im.bytesOf 1 (IntKind.u64.wrap u) = bs ++ En.inBytes ⟨x, y, u⟩ by rw [En.bytesOf_wrap1, En.bytesOf_wrap1, En.bytesOf_wrap1]; unfold En.inBytes; simp only [List.append_assoc])
  have S0 := Lib.hid s0
  have S1 := Lib.hid s1
  have S2 := Lib.hid s2
  clear h hP hc hz s0 s1 s2
  go_enter Try.func154, Try.ntmps154
  go_wp2_with (first | (go_at_call 76; ((with_reducible refine (need_yes _ _).mono ?_); rintro e wn ⟨rfl, rfl⟩)) | (go_at_call 162; first | ((with_reducible refine (c1.out).mono ?_); rintro e w1 ⟨rfl, hI, hK⟩; have P1 := Lib.hid (P0.out.wrote' hK HH.out.isvar h1 h2); have I1 := Lib.hid hI; have K1 := Lib.hid hK; clear hI hK c1) | ((with_reducible refine ((c2 _ I1.out P1.out).out).mono ?_); rintro e w2 ⟨rfl, hI, hK⟩; have P2 := Lib.hid (P1.out.wrote' hK I1.out.isvar h1 h2); have I2 := Lib.hid hI; have K2 := Lib.hid (K1.out.trans hK); clear hI hK)) | (go_at_call 163; ((with_reducible refine ((c3 _ I2.out P2.out).out).mono ?_); rintro e w3 ⟨rfl, hI, hK⟩; have P3 := P2.out.wrote' hK I2.out.isvar h1 h2; have p0 := (P3.cell o).trans S0.out; have p1 := (P3.cell (o + 1)).trans S1.out; have p2 := (P3.cell (o + 2)).trans S2.out; have I3 := Lib.hid hI; have K3 := Lib.hid (K2.out.trans hK); clear hI hK P3)))
  go_end0
  exact ⟨rfl, by rw [← HE.out]; exact I3.out, K3.out⟩

set_option maxRecDepth 100000 in
set_option maxHeartbeats 4000000 in
theorem layinputs_w (e : En.E) (s : Value) (B : Nat) (bs : List Int) (b Bb Bp : Nat) (w : World) (hty : ∀ i, i < 8 → Gm.tyIn (e.inp i)) (hbB : b ≤ Bb) (h : Wr b Bb Bp bs w) (hl : bs.length + 25 ≤ 65536) (hP : Box w B 72 (En.cells e s)) :
    Calls Try.prog 132 #[.func (.func 129) #[] #[.pointer (some ⟨Bp, 0, none⟩)], .pointer (some ⟨B, 0, none⟩)] w fun r w' => r = .returned (.tuple #[]) ∧ Wr b Bb Bp (bs ++ (Im.bytesOf 1 (En.mask e.inp 8) ++ En.insBytes e.inp 8)) w' ∧ Wrote b Bb w w' := by
  have ltP := hP.lt
  have P0 := Lib.hid hP
  have W0 := Lib.hid h
  clear h hP
  go_enter Try.func132, Try.ntmps132
  go_wp2_with ((with_reducible refine en_load_ins rfl rfl ?_); apply LoadEn.mk rfl; (focus (with_reducible exact P0.out.alloc _)); dsimp only)
  go_loopw [12] (fun i wr => ∃ k : Nat, k ≤ 8 ∧ i = .int .i64 k ∧ Wr b Bb Bp bs wr ∧ Wrote b Bb w wr ∧ Box wr w.heap.size 3 #[.int .i64 (En.mask e.inp k : Nat)]) (fun i _ => 8 - (intOf i).toNat)
  case atStart => exact ⟨0, by omega, rfl, W0.out.alloc _, (Wrote.refl hbB w).alloc _, Box.made _ _ _⟩
  case round =>
    obtain ⟨k, hk, rfl, hI, hK, hD⟩ := hrel
    by_cases hlt : k < 8
    · have hk8 : (k : Int) < 8 := by omega
      have hpart := in_index e.inp k hlt
      have hml := En.mask_lt e.inp k
      have hp8 : 2 ^ k < 2 ^ 8 := Nat.pow_lt_pow_right (by decide) hlt
      have hms : En.mask e.inp (k + 1) = En.mask e.inp k + (if En.zero (e.inp k) = true then 0 else 2 ^ k) := rfl
      obtain ⟨m, hm⟩ : ∃ m, m = En.mask e.inp k := ⟨_, rfl⟩
      obtain ⟨p, hp⟩ : ∃ p, p = e.inp k := ⟨_, rfl⟩
      rw [← hm] at hml hms hD
      rw [← hp] at hms hpart
      obtain ⟨x, y, u⟩ := p
      dsimp only at hpart
      have hneq := fun W => in_neq x y u W
      have hor := En.or_bit ⟨m, by omega⟩ ⟨k, hlt⟩ hml
      dsimp only at hor
      have HI := Lib.hid hI
      have HK := Lib.hid hK
      have HD := Lib.hid hD
      have HOR := Lib.hid hor
      have d1 := fun o => (hD.alloc o).cell 0
      have d2 := fun o => (hD.alloc o).free 0
      have sz := hK.size
      clear hI hK hD hor hm hp
      cases hz : En.zero ⟨x, y, u⟩
      · rw [hz] at hms hneq
        have HMS := Lib.hid hms
        clear hms hz
        go_upto_region 5 with fail
        obtain ⟨V, hV⟩ : ∃ V, V = wr.alloc (.cells #[.int .i8 x, .int .i8 y, .int .u8 u] 37) := ⟨_, rfl⟩
        have DV := Lib.hid (show Box V w.heap.size 3 #[.int .i64 (m : Nat)] from hV ▸ HD.out.alloc _)
        have IV := Lib.hid (show Wr b Bb Bp bs V from hV ▸ HI.out.alloc _)
        have KV := Lib.hid (show Wrote b Bb w V from hV ▸ HK.out.alloc _)
        first | rw [← hV] | skip
        refine Rp.wp_region_lex (by kernel_rfl) [] (by kernel_rfl) (· = V.drew) (fun W => Box W w.heap.size 3 #[.int .i64 (m : Nat)]) (fun _ => True) rfl (fun W hW => ⟨hW ▸ DV.out.drew, trivial⟩) ?_
        repeat (first
          | (apply Rp.lex_free rfl rfl; focus (intro _; go_simp; first | done | rfl))
          | (apply Rp.lex_look rfl rfl rfl rfl; focus (intro W hW; have c0 := Box.cell hW; clear hW; go_simp; first | done | rfl)))
        refine Rp.lex_store rfl rfl (C' := (· = V.drew.setCell ⟨w.heap.size, 0, none⟩ (.int .i64 ((m + 2 ^ k : Nat) : Int)))) (D' := fun _ => True) (fun W hW => ⟨_, ?_, rfl⟩) (fun _ _ => ⟨trivial, trivial⟩) ?_
        focus (subst hW; have f2 := DV.out.drew.free; have k2 := DV.out.drew.cell; rw [← HOR.out]; go_simp; first | done | rfl)
        refine Rp.lex_end fun W2 hW2 => ?_
        have I2 := Lib.hid (show Wr b Bb Bp bs W2 from hW2 ▸ (IV.out.call (one_below' V)).off (p := ⟨w.heap.size, 0, none⟩) DV.out.drew (by decide) (by decide) (by decide) _)
        have K2 := Lib.hid (show Wrote b Bb w W2 from hW2 ▸ KV.out.drew.fresh (p := ⟨w.heap.size, 0, none⟩) (Nat.le_refl _) _)
        have D2 := Lib.hid (show Box W2 w.heap.size 3 #[.int .i64 ((m + 2 ^ k : Nat) : Int)] from hW2 ▸ DV.out.drew.put 0 _)
        clear hW2
        go_wp2
        go_roundw
        case rel => exact ⟨k + 1, by omega, by go_num, I2.out, K2.out, by rw [HMS.out]; exact D2.out⟩
        case measure => simp [intOf]; omega
      · rw [hz] at hms hneq
        have HMS := Lib.hid hms
        clear hms hz
        go_wp2
        go_roundw
        case rel => exact ⟨k + 1, by omega, by go_num, HI.out.alloc _, HK.out.alloc _, by rw [HMS.out]; exact HD.out.alloc _⟩
        case measure => simp [intOf]; omega
    · have hk8 : ¬ (k : Int) < 8 := by omega
      obtain rfl : k = 8 := by omega
      have hm8 := En.mask_lt e.inp 8
      have hbit := fun j hj => En.mask_bit e.inp 8 j hj
      obtain ⟨m, hm⟩ : ∃ m, m = En.mask e.inp 8 := ⟨_, rfl⟩
      rw [← hm] at hD hm8 hbit
      have HM := Lib.hid hm
      have hwm : IntKind.u64.wrap (m : Int) = m := by rw [IntKind.wrap_u64]; omega
      have c1 := Lib.hid (layint_w 1 1 rfl m w.heap.size 0 3 #[.int .i64 m] bs b Bb Bp wr (by decide) (by omega) hbB hI (by omega) hD rfl (by decide) (by decide) (by decide))
      rw [hwm] at c1
      have HIV := Lib.hid hI.isvar
      have HD := Lib.hid hD
      have PB := Lib.hid (P0.out.wrote' hK W0.out.isvar (by decide) (by decide))
      have HK := Lib.hid hK
      have HBIT := Lib.hid hbit
      clear hI hK hD hm hwm hbit
      go_wp2_with (go_at_call 124; ((with_reducible refine (c1.out).mono ?_); rintro r w1 ⟨rfl, hI1, hK1⟩; have D1 := Lib.hid (HD.out.wrote' hK1 HIV.out (by decide) (by decide)); have P1 := Lib.hid (PB.out.wrote' hK1 HIV.out (by decide) (by decide)); have I1 := Lib.hid hI1; have K1 := Lib.hid (HK.out.trans hK1); clear hI1 hK1 c1))
      go_loopw [26] (fun i wx => ∃ k : Nat, k ≤ 8 ∧ i = .int .i64 k ∧ Wr b Bb Bp (bs ++ Im.bytesOf 1 m ++ En.insBytes e.inp k) wx ∧ Wrote b Bb w1 wx) (fun i _ => 8 - (intOf i).toNat)
      case atStart => exact ⟨0, by omega, rfl, by simpa [En.insBytes] using I1.out, Wrote.refl hbB w1⟩
      case round =>
        obtain ⟨k, hk, rfl, hI, hK⟩ := hrel
        have D2 := Lib.hid (D1.out.wrote' hK I1.out.isvar (by decide) (by decide))
        have P2 := Lib.hid (P1.out.wrote' hK I1.out.isvar (by decide) (by decide))
        by_cases hlt : k < 8
        · have hk8 : (k : Int) < 8 := by omega
          have hb8 := HBIT.out k hlt
          have hsb : En.insBytes e.inp (k + 1) = En.insBytes e.inp k ++ (if En.zero (e.inp k) = true then [] else En.inBytes (e.inp k)) := rfl
          have hlen := En.insBytes_le e.inp k
          have hc := fun j hj => En.cells_in e s k j hlt hj
          have ht := hty k hlt
          obtain ⟨p, hp⟩ : ∃ p, p = e.inp k := ⟨_, rfl⟩
          rw [← hp] at hb8 hsb ht
          simp only [← hp] at hc
          have HI := Lib.hid hI
          have HK := Lib.hid hK
          have d1 := D2.out.cell 0
          have ltB := P2.out.lt
          cases hz : En.zero p
          · rw [hz] at hb8 hsb
            obtain ⟨q, hq1, hq2⟩ := En.and_yes (by omega) hlt hb8
            have HSB := Lib.hid hsb
            have HC := Lib.hid hc
            have HT := Lib.hid ht
            have HZ := Lib.hid hz
            clear hI hK hsb hc ht hz hb8 hp
            go_upto_region 11 with fail
            go_quiet (fail)
            have sdr : ∀ n, Wrote b Bb w1 (wr.drewN n) := fun n => HK.out.call (draws_below (Below.refl _ _) n)
            have cl := fun n => Lib.hid (layinput_w p B (2 + k * 3) 72 _ _ b Bb Bp (wr.drewN n) HT.out HZ.out hbB (HI.out.call (draws_below (Below.refl _ _) n)) (by rw [List.length_append, List.length_append, Im.bytesOf_len]; omega) (P2.out.draws n) HC.out (by decide) (by decide) (by decide))
            go_wp2_with (go_at_call 154; ((with_reducible refine ((cl _).out).mono ?_); rintro r w3 ⟨rfl, hI3, hK3⟩; have I3 := Lib.hid hI3; have K3 := Lib.hid ((sdr _).trans hK3); clear hI3 hK3))
            go_roundw
            case rel => exact ⟨k + 1, by omega, by go_num, by rw [HSB.out]; simpa using I3.out, K3.out⟩
            case measure => simp [intOf]; omega
          · rw [hz] at hb8 hsb
            obtain ⟨q, hq1, hq2⟩ := En.and_no (by omega) hlt hb8
            have HSB := Lib.hid hsb
            clear hI hK hsb hc ht hz hb8 hp
            go_upto_region 11 with fail
            go_quiet (fail)
            go_wp2
            go_roundw
            case rel => exact ⟨k + 1, by omega, by go_num, by rw [HSB.out]; simpa using HI.out.call (draws_below (Below.refl _ _) _), HK.out.call (draws_below (Below.refl _ _) _)⟩
            case measure => simp [intOf]; omega
        · have hk8 : ¬ (k : Int) < 8 := by omega
          obtain rfl : k = 8 := by omega
          have HI := Lib.hid hI
          have HK := Lib.hid hK
          clear hI hK
          go_wp2
          go_end0
          exact ⟨rfl, by rw [← HM.out, ← List.append_assoc]; exact HI.out, K1.out.trans HK.out⟩
end Go.Proofs.Ytbihnmingedgfaa
