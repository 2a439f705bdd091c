/-
Several texts in one: Zf Zby Zg Zen.
-/
import Derived.Test.YtgmlbimgcifenaaVp5
namespace Go.Proofs.Ytgmlbimgcifenaa
open Go.RowKit Go.Shelf
set_option linter.unusedVariables false
set_option linter.unusedSimpArgs false

/-- What the writer writes to does not lie in block g. -/
def Far (g Bb : Nat) (W : World) : Prop := ∀ A n c, Box W Bb 27 #[.slice A n c] → (Value.slice A n c).ownBlock ≠ some g
/-- Rows of bytes that are not the writer's stay, and stay not the writer's. -/
def FarK (Bb : Nat) (w w' : World) : Prop := ∀ g G, Box w g 5 G → Far g Bb w → Box w' g 5 G ∧ Far g Bb w'
/-- All blocks but one stay. -/
def OnlyB (Bb : Nat) (w w' : World) : Prop := ∀ g T G, g ≠ Bb → Box w g T G → Box w' g T G
theorem Box.is_one {W : World} {B : Nat} {A A' : Option Addr} {n c n' c' : Nat} {t : TypeId} (h : Box W B t #[.slice A n c]) (k : Box W B t #[.slice A' n' c']) : (Value.slice A n c) = .slice A' n' c' := by
  have h2 := h.is
  rw [k.is] at h2
  injection h2 with h2
  injection h2 with h2 _ _
  have := congrArg (fun q : Array Value => q[0]?) h2
  simpa using this.symm
section
variable {Bb : Nat} {w w' w'' : World}
theorem FarK.refl (w : World) : FarK Bb w w := fun _ _ h k => ⟨h, k⟩
theorem FarK.trans (h : FarK Bb w w') (k : FarK Bb w' w'') : FarK Bb w w'' := fun g G hg hf => k g G (h g G hg hf).1 (h g G hg hf).2
theorem Far.call {g : Nat} (h : Far g Bb w) (hb : Below w.heap.size w w') (hv : Bb < w.heap.size) : Far g Bb w' := fun A n c hB => h A n c ⟨(hb.block Bb hv).symm.trans hB.is⟩
theorem FarK.call (h : FarK Bb w w') (hb : Below w'.heap.size w' w'') (hv : Bb < w'.heap.size) : FarK Bb w w'' := h.trans fun g G hg hf => ⟨hg.below hb hg.lt, hf.call hb hv⟩
theorem FarK.far (h : FarK Bb w w') {p : Addr} {t : TypeId} {cs : Array Value} (hp : Box w' p.block t cs) (h2 : t ≠ 5) (hB : p.block ≠ Bb) (u : Value) : FarK Bb w (w'.setCell p u) := h.trans fun g G hg hf => ⟨hg.far (Box.apart hg hp (fun e => h2 e.symm)) u, fun A n c h' => hf A n c ⟨(heap_setCell_other w' p Bb u (fun e => hB e.symm)).symm.trans h'.is⟩⟩
theorem FarK.grown {A A2 : Option Addr} {n c c2 : Nat} {o : Obj} (h : FarK Bb w w') (hB : Box w' Bb 27 #[.slice A n c]) (hB2 : Box w'' Bb 27 #[.slice A n c])
    (hg2 : (w'.drew.alloc o).grownBy w'' (Value.slice A n c).ownBlock) (hblk : (Value.slice A2 (n + 1) c2).ownBlock = (Value.slice A n c).ownBlock ∨ (Value.slice A2 (n + 1) c2).ownBlock = some (w'.drew.alloc o).heap.size) : FarK Bb w (w''.setCell ⟨Bb, 0, none⟩ (.slice A2 (n + 1) c2)) := h.trans fun g G hg hf => by
  have nF := hf A n c hB
  have hgl := hg.lt
  have G2 : Box w'' g 5 G := Box.grown (hg.drew.alloc o) hg2 nF
  refine ⟨G2.far (p := ⟨Bb, 0, none⟩) (Box.apart G2 hB2 (by decide)) _, fun A' n' c' h' => ?_⟩
  rw [h'.is_one (hB2.put 0 (.slice A2 (n + 1) c2))]
  intro e
  rcases hblk with h | h
  · exact nF (h ▸ e)
  · rw [h] at e
    injection e with e
    simp at e
    omega
theorem OnlyB.refl (w : World) : OnlyB Bb w w := fun _ _ _ _ h => h
theorem OnlyB.trans (h : OnlyB Bb w w') (k : OnlyB Bb w' w'') : OnlyB Bb w w'' := fun g T G hg hB => k g T G hg (h g T G hg hB)
end
theorem append_runs2 {P : Program} (w : World) {t ty e : TypeId} {i : TypeInfo} {z : Value} {size bytes : Nat} (ht : P.underlying t = some (.slice e)) (hi : P.info? e = some i) (hz : i.zero = some z) (hs : i.size = size) (hby : i.bytes = bytes) (hzs : z.cells.size = size) (hsz : 0 < size)
    {base n : Nat} {v : Value} {xs : List Value} (ho : w.ownsRow base e size v n xs) {ad : Addr} {m c : Nat} {news : List Value} (hl : Lies w w.heap.size size (some ad) m news) (hm : m ≠ 0) (h1 : ∀ u ∈ news, u.oneCell' = true) (h63 : n + m ≤ maxLen) (hb : (n + m) * bytes ≤ 140737488355328) (hbase : base ≤ w.heap.size) :
    ∃ A' c' w', (Builtin.append_ #[t, t] ty #[v, .slice (some ad) m c]).run P w = .ok (.slice A' (n + m) c') w' ∧ w'.ownsRow base e size (.slice A' (n + m) c') (n + m) (xs ++ news) ∧ w.grownBy w' v.ownBlock ∧ ((Value.slice A' (n + m) c').ownBlock = v.ownBlock ∨ (Value.slice A' (n + m) c').ownBlock = some w.heap.size) := by
  obtain ⟨v', w', hr, h2, h3, _, h5⟩ := run_append_own_at (P := P) w base t ty e i z size bytes ht hi hz hs hby hzs hsz v n xs ho ad m c news hl.len (fun j u hu => hl.cell ad rfl hm j u hu) h1 h63 hb hbase
  obtain ⟨A', c', rfl⟩ := owned_slice h2
  exact ⟨A', c', w', hr, h2, h3, h5⟩

set_option maxRecDepth 100000 in
set_option maxHeartbeats 4000000 in
theorem write_far (size : Nat) (v : Int) (bs : List Int) (b Bb Bp : Nat) (w : World) (hs : size ≤ 8) (hv : 0 ≤ v ∧ v ≤ 18446744073709551615) (hbB : b ≤ Bb) (h : Wr b Bb Bp bs w) (hl : bs.length + size ≤ 65536) :
    Calls Try.prog 54 #[.int .i64 size, .int .u64 v, .pointer (some ⟨Bp, 0, none⟩)] w fun e w' => e = .returned (.int .u64 v) ∧ Wr b Bb Bp (bs ++ Im.bytesOf size v) w' ∧ Wrote b Bb w w' ∧ FarK Bb w w' := by
  have HH := Lib.hid h
  clear h
  go_enter Try.func54, Try.ntmps54
  go_wp2
  go_loopw [8] (fun i wr => ∃ k : Nat, k ≤ size ∧ i = .int .i64 k ∧ Wr b Bb Bp (bs ++ Im.bytesOf k v) wr ∧ Wrote b Bb w wr ∧ FarK Bb w wr) (fun i _ => size - (intOf i).toNat)
  case atStart => exact ⟨0, by omega, rfl, by simpa [Im.bytesOf] using HH.out, Wrote.refl hbB w, FarK.refl w⟩
  case round =>
    obtain ⟨k, hk, rfl, hI, hK, hG⟩ := hrel
    have GG := Lib.hid hG
    clear hG
    by_cases hlt : k < size
    · have hk8 : (k : Int) < size := by omega
      obtain ⟨A, c, hB, hO⟩ := hI.var
      have hP := hI.ptr
      have hlen : (bs ++ Im.bytesOf k v).length = bs.length + k := by rw [List.length_append, Im.bytesOf_len]
      rw [hlen] at hB hO
      generalize hn : bs.length + k = n at *
      have HI := Lib.hid hI
      have HK := Lib.hid hK
      have HP := Lib.hid hP
      have HB := Lib.hid hB
      have HO := Lib.hid hO
      clear hI hP hB hO hK
      have h8 : IntKind.i64.wrap (8 * (k : Int)) = 8 * k := by rw [IntKind.wrap_i64]; omega
      have hq : 0 ≤ v / 2 ^ (8 * k) ∧ v / 2 ^ (8 * k) ≤ 18446744073709551615 := by
        have hp : (0 : Int) < 2 ^ (8 * k) := Int.pow_pos (by decide)
        exact ⟨Int.ediv_nonneg hv.1 (Int.le_of_lt hp), Int.le_trans (Int.ediv_le_self _ hv.1) hv.2⟩
      obtain ⟨x, hx⟩ : ∃ x, x = v / 2 ^ (8 * k) % 256 := ⟨_, rfl⟩
      have hsn : bs ++ Im.bytesOf (k + 1) v = (bs ++ Im.bytesOf k v) ++ [x] := by rw [hx]; simp [Im.bytesOf]
      have hxw : IntKind.u8.wrap (v / 2 ^ (8 * (k : Int)).toNat) = x := by rw [show (8 * (k : Int)).toNat = 8 * k by omega, IntKind.wrap_u8, hx]
      have HSN := Lib.hid hsn
      clear hsn hx
      go_upto_region 4 with fail
      refine Rp.wp_region_lex (by kernel_rfl) [] (by kernel_rfl) (· = wr.drew) (fun W => Box W Bp 68 #[.pointer (some ⟨Bb, 0, none⟩)] ∧ Box W Bb 27 #[.slice A n c]) (fun _ => True) rfl (fun W hW => ⟨hW ▸ ⟨HP.out.drew, HB.out.drew⟩, trivial⟩) ?_
      repeat (first
        | (apply Rp.lex_free rfl rfl; focus (intro _; go_simp; first | done | rfl))
        | (apply Rp.lex_look rfl rfl rfl rfl; focus (intro W hW; obtain ⟨hW1, hW2⟩ := hW; have c0 := Box.cell hW1; have c1 := Box.cell hW2; clear hW1 hW2; go_simp; first | done | rfl)))
      obtain ⟨i0, hi0, hz0, hz1, hz2⟩ := u8_parts
      have szb : b ≤ wr.heap.size := Nat.le_trans hbB (Nat.le_of_lt HB.out.lt)
      obtain ⟨A2, c2, w2, hrun, own2, hg2, hblk⟩ := append_runs2 (P := Try.prog) _ (ty := 27) Try.underlying27 hi0 hz0 hz1 hz2 rfl (by decide) ((HO.out.drew).alloc (.cells #[.int .u8 x] 5)) (c := 1) (lies_byte wr.drew x) (by decide) (Im.u8s_one _) (by unfold maxLen; omega) (by omega) (by simp; omega)
      have B2 := Lib.hid (grown_box HB.out.drew HO.out.drew (by decide) hg2)
      have P2 := Lib.hid (grown_box HP.out.drew HO.out.drew (by decide) hg2)
      have K2 := Lib.hid (HK.out.drew.grown' HO.out.drew hg2)
      have F2 := Lib.hid (FarK.grown GG.out HB.out B2.out hg2 hblk)
      have OW := Lib.hid own2
      have neP : Bp ≠ Bb := HI.out.ne
      clear own2 hg2 hblk
      refine Rp.lex_make rfl (W' := wr.drew.alloc (.cells #[.int .u8 x] 5)) (v := .slice (some ⟨wr.drew.heap.size, 0, none⟩) 1 1) ?_ ⟨⟨HP.out.drew.alloc _, HB.out.drew.alloc _⟩, trivial⟩ ?_
      focus (go_simp; first | done | rfl)
      refine Rp.lex_make rfl (W' := w2) (v := .slice A2 (n + 1) c2) (exec_append' (x := .tmp 14) (y := .tmp 20) (v1 := .slice A n c) (v2 := .slice (some ⟨wr.drew.heap.size, 0, none⟩) 1 1) rfl (by go_simp) (by go_simp) hrun) ⟨⟨P2.out, B2.out⟩, trivial⟩ ?_
      repeat (first
        | (apply Rp.lex_free rfl rfl; focus (intro _; go_simp; first | done | rfl))
        | (apply Rp.lex_look rfl rfl rfl rfl; focus (intro W hW; obtain ⟨hW1, hW2⟩ := hW; have c0 := Box.cell hW1; have c1 := Box.cell hW2; clear hW1 hW2; go_simp; first | done | rfl)))
      refine Rp.lex_store rfl rfl (C' := (· = w2.setCell ⟨Bb, 0, none⟩ (.slice A2 (n + 1) c2))) (D' := fun _ => True) (fun W hW => ⟨_, ?_, rfl⟩) (fun _ _ => ⟨trivial, trivial⟩) ?_
      focus (subst hW; have f2 := B2.out.free; have k2 := B2.out.cell; go_simp; first | done | rfl)
      refine Rp.lex_end fun W2 hW2 => ?_
      have ne2 := B2.out.unowned OW.out (by decide)
      have H3 : Wr b Bb Bp (bs ++ Im.bytesOf (k + 1) v) W2 := by
        subst hW2
        have hlen3 : ((bs ++ Im.bytesOf k v) ++ [x]).length = n + 1 := by rw [List.length_append, hlen]; rfl
        rw [HSN.out]
        refine ⟨P2.out.far (by show Bp ≠ Bb; exact neP) _, A2, c2, ?_, ?_⟩
        · rw [hlen3]; exact B2.out.put 0 _
        · rw [hlen3, Im.u8s_append]; exact ownsRow_setCell_other (a := ⟨Bb, 0, none⟩) OW.out ne2 _
      have K3 : Wrote b Bb w W2 := by subst hW2; exact K2.out.put _ _
      have F3 : FarK Bb w W2 := by subst hW2; exact F2.out
      have F4 := Lib.hid F3
      have H4 := Lib.hid H3
      clear F3
      have K4 := Lib.hid K3
      clear H3 K3 hW2 hrun ne2 hlen
      go_wp2
      go_roundw
      case rel => exact ⟨k + 1, by omega, by go_num, H4.out, K4.out, F4.out⟩
      case measure => simp [intOf]; omega
    · have hk8 : ¬ (k : Int) < size := by omega
      obtain rfl : k = size := by omega
      have HI := Lib.hid hI
      have HK := Lib.hid hK
      clear hI hK
      go_wp2
      go_ret
      exact ⟨rfl, HI.out, HK.out, GG.out⟩
set_option maxRecDepth 100000 in
set_option maxHeartbeats 4000000 in
theorem read_only (size : Nat) (z : Int) (hz : z = size) (v0 : Int) (f : Nat → Int) (xs rest : List Int) (b Bb Bp : Nat) (w : World) (hs : 1 ≤ size ∧ size ≤ 8) (hx : xs.length = size) (hf : ∀ k (h : k < xs.length), xs[k] = f k) (hf2 : ∀ k, 0 ≤ f k ∧ f k ≤ 255) (hbB : b ≤ Bb) (h : Rd b Bb Bp (xs ++ rest) w) :
    Calls Try.prog 60 #[.int .i64 z, .int .u64 v0, .pointer (some ⟨Bp, 0, none⟩)] w fun e w' => e = .returned (.int .u64 (Im.val f size)) ∧ Rd b Bb Bp rest w' ∧ Wrote b Bb w w' ∧ OnlyB Bb w w' := by
  subst hz
  obtain ⟨hP, A, c, hB, hc, hL⟩ := h
  have hlen : (xs ++ rest).length = size + rest.length := by rw [List.length_append, hx]
  rw [hlen] at hB hc hL
  obtain ⟨n, hn⟩ : ∃ n, n = size + rest.length := ⟨_, rfl⟩
  rw [← hn] at hB hc hL
  obtain ⟨ad, rfl, had⟩ := hL.start (by omega)
  have hcell : ∀ k, k < size → w.cell? (ad.add k) = some (.int .u8 (f k)) := fun k hk => hL.cell ad rfl (by omega) k _ (by
    unfold Im.u8s
    rw [List.getElem?_map, List.getElem?_append_left (by omega), List.getElem?_eq_getElem (by omega), hf k (by omega)]; rfl)
  have hsn : (size : Int) ≤ n := by omega
  have hs1 : ∀ W, (Instr.slice 27 (.slice (some ad) n c) none (some (.int .i64 size)) none).run Try.prog W = .ok (.slice (some ad) size c) W := fun W => by
    have h0 : (0 : Int) ≤ size := by omega
    have h2 : (size : Int) ≤ c := by omega
    have hc0 : ¬ c = 0 := by omega
    go_simp
  have hs2 : ∀ W, (Instr.slice 27 (.slice (some ad) n c) (some (.int .i64 size)) none none).run Try.prog W = .ok (.slice (if c = size then some ad else some (ad.add size)) rest.length (c - size)) W := fun W => by
    have h0 : (0 : Int) ≤ size := by omega
    have h2 : (size : Int) ≤ n := by omega
    have hr : n - size = rest.length := by omega
    clear hn hlen
    go_simp
  obtain ⟨A2, hA2⟩ : ∃ A2, A2 = if c = size then some ad else some (ad.add size) := ⟨_, rfl⟩
  rw [← hA2] at hs2
  have HA := Lib.hid hA2
  clear hA2
  have HP := Lib.hid hP
  have HB := Lib.hid hB
  have HL := Lib.hid hL
  have HC := Lib.hid hc
  have HF := Lib.hid hf2
  have HV := Lib.hid (Im.val_lt f hf2)
  have b0 := hB.cell 0
  have p0 := hP.cell 0
  have HN := Lib.hid hn
  have HX := Lib.hid hx
  have HE := Lib.hid (show Bp ≠ Bb from Box.apart hP hB (by decide))
  have HS := Lib.hid hs
  clear hP hB hL hc hn hs hx hf hf2 hlen
  go_enter Try.func60, Try.ntmps60
  go_wp2_with (first | (go_at_call 30; ((with_reducible refine (need_yes _ _).mono ?_); rintro e w2 ⟨rfl, rfl⟩)))
  go_loopw [6, 22] (fun v i wr => ∃ k : Nat, k ≤ size ∧ i = .int .i64 k ∧ v = .int .u64 (Im.val f k) ∧ w = wr) (fun _ i _ => size - (intOf i).toNat)
  case atStart => exact ⟨0, by omega, rfl, rfl, rfl⟩
  case round =>
    obtain ⟨k, hk, rfl, rfl, rfl⟩ := hrel
    by_cases hlt : k < size
    · have hk8 : (k : Int) < size := by omega
      have hck := hcell k hlt
      have h8 : IntKind.i64.wrap (8 * (k : Int)) = 8 * k := by have := HS.out.2; rw [IntKind.wrap_i64]; omega
      have hp0 := HV.out k
      have hfk := HF.out k
      have hsz := HS.out.2
      have hpk : (0 : Int) < 2 ^ (8 * k) := Int.pow_pos (by decide)
      have hwr : IntKind.u64.wrap (f k * 2 ^ (8 * k)) = f k * 2 ^ (8 * k) := by
        have hp : (2 : Nat) ^ (8 * k) ≤ 2 ^ 56 := Nat.pow_le_pow_right (by decide) (by omega)
        have hp' : (2 : Int) ^ (8 * k) ≤ 2 ^ 56 := by exact_mod_cast hp
        have a1 : 0 ≤ f k * 2 ^ (8 * k) := Int.mul_nonneg hfk.1 (Int.le_of_lt hpk)
        have a2 : f k * 2 ^ (8 * k) ≤ 255 * 2 ^ (8 * k) := Int.mul_le_mul_of_nonneg_right hfk.2 (Int.le_of_lt hpk)
        rw [IntKind.wrap_u64]
        generalize f k * 2 ^ (8 * k) = y at *
        omega
      have hor := Im.or_shift (Im.val f k) (f k) k (by omega) hp0 hfk
      have hnext : bits .or .u64 (Im.val f k) (IntKind.u64.wrap (f k * 2 ^ (8 * k))) = Im.val f (k + 1) := by rw [hwr, hor]; rfl
      have HW := Lib.hid hnext
      obtain ⟨vk, hvk⟩ : ∃ vk, vk = Im.val f k := ⟨_, rfl⟩
      rw [← hvk] at HW
      rw [← hvk]
      clear hvk hnext hp0 hpk hor hwr
      go_wp2
      go_roundw
      case rel => exact ⟨k + 1, by omega, by go_num, by rw [HW.out], by first | rfl | trivial⟩
      case measure => simp [intOf]; omega
    · have hk8 : ¬ (k : Int) < size := by omega
      obtain rfl : k = size := by omega
      go_upto_region 8 with fail
      refine Rp.wp_region_lex (by kernel_rfl) [] (by kernel_rfl) (· = w.drew) (fun W => Box W Bp 68 #[.pointer (some ⟨Bb, 0, none⟩)] ∧ Box W Bb 27 #[.slice (some ad) n c]) (fun _ => True) rfl (fun W hW => ⟨hW ▸ ⟨HP.out.drew, HB.out.drew⟩, trivial⟩) ?_
      repeat (first
        | (apply Rp.lex_free rfl rfl; focus (intro _; go_simp; first | done | rfl))
        | (apply Rp.lex_look rfl rfl rfl rfl; focus (intro W hW; obtain ⟨hW1, hW2⟩ := hW; have c0 := Box.cell hW1; have c1 := Box.cell hW2; clear hW1 hW2; go_simp; first | done | rfl)))
      refine Rp.lex_read rfl rfl rfl (v := .slice A2 rest.length (c - k)) (fun W hW => ?_) ?_
      focus (go_simp; first | done | rfl)
      repeat (first
        | (apply Rp.lex_free rfl rfl; focus (intro _; go_simp; first | done | rfl))
        | (apply Rp.lex_look rfl rfl rfl rfl; focus (intro W hW; obtain ⟨hW1, hW2⟩ := hW; have c0 := Box.cell hW1; have c1 := Box.cell hW2; clear hW1 hW2; go_simp; first | done | rfl)))
      refine Rp.lex_store rfl rfl (C' := (· = w.drew.setCell ⟨Bb, 0, none⟩ (.slice A2 rest.length (c - k)))) (D' := fun _ => True) (fun W hW => ⟨_, ?_, rfl⟩) (fun _ _ => ⟨trivial, trivial⟩) ?_
      focus (subst hW; have f2 := HB.out.drew.free; have k2 := HB.out.drew.cell; go_simp; first | done | rfl)
      refine Rp.lex_end fun W2 hW2 => ?_
      have HH : Rd b Bb Bp rest W2 := by
        subst hW2
        refine ⟨HP.out.drew.far (p := ⟨Bb, 0, none⟩) HE.out _, _, c - k, HB.out.drew.put 0 _, by have := HN.out; have := HC.out; omega, ?_⟩
        rw [HA.out]
        refine (HL.out.rest rest.length (by rw [HX.out]) HC.out HN.out).stays fun i hi => ?_
        exact heap_setCell_other w.drew ⟨Bb, 0, none⟩ i _ (by show i ≠ Bb; omega)
      have HK : Wrote b Bb w W2 := by subst hW2; exact (Wrote.refl hbB w).drew.put 0 _
      have HA2 : OnlyB Bb w W2 := fun g T G hg h => by subst hW2; exact h.drew.far (p := ⟨Bb, 0, none⟩) hg _
      have A3 := Lib.hid HA2
      clear HA2
      have H2 := Lib.hid HH
      have K2 := Lib.hid HK
      clear HH HK hW2
      go_wp2
      go_ret
      exact ⟨rfl, H2.out, K2.out, A3.out⟩
set_option maxRecDepth 100000 in
set_option maxHeartbeats 1000000 in
theorem layu8_far (x : Int) (P o : Nat) (cs : Array Value) (bs : List Int) (b Bb Bp : Nat) (w : World) (hx : 0 ≤ x ∧ x ≤ 255) (hbB : b ≤ Bb) (h : Wr b Bb Bp bs w) (hl : bs.length + 1 ≤ 65536) (hP : Box w P 5 cs) (hF : Far P Bb w) (ho : cs[o]? = some (.int .u8 x)) :
    Calls Try.prog 87 #[.func (.func 54) #[] #[.pointer (some ⟨Bp, 0, none⟩)], .int .i64 1, .pointer (some ⟨P, o, none⟩)] w fun e w' => e = .returned (.tuple #[]) ∧ Wr b Bb Bp (bs ++ Im.bytesOf 1 x) w' ∧ Wrote b Bb w w' ∧ FarK Bb w w' := by
  have hwb : IntKind.u8.wrap (IntKind.u64.wrap x) = x := by rw [IntKind.wrap_u8, IntKind.wrap_u64]; omega
  have hvr : 0 ≤ IntKind.u64.wrap x ∧ IntKind.u64.wrap x ≤ 18446744073709551615 := by rw [IntKind.wrap_u64]; omega
  have hvx : IntKind.u64.wrap x = x := by rw [IntKind.wrap_u64]; omega
  rw [hvx] at hwb hvr
  have cw := Lib.hid (write_far 1 x bs b Bb Bp w (by decide) hvr hbB h hl)
  rw [show ((1 : Nat) : Int) = 1 from rfl] at cw
  have HP := Lib.hid hP
  have HF := Lib.hid hF
  have k0 := hP.cell o
  rw [ho] at k0
  have HO := Lib.hid ho
  clear h hP ho hF
  go_enter Try.func87, Try.ntmps87
  go_wp2_with (go_at_call 54; ((with_reducible refine (cw.out).mono ?_); rintro e w1 ⟨rfl, hI1, hK1, hF1⟩; have P1 := Lib.hid (hF1 P _ HP.out HF.out); have I1 := Lib.hid hI1; have K1 := Lib.hid hK1; have F1 := Lib.hid hF1; have k1 := P1.out.1.cell o; rw [HO.out] at k1; have f1 := P1.out.1.free o; clear hI1 hK1 hF1 k0))
  go_end0
  have hB := fun k => setCell_noop P1.out.1 HO.out k
  have hbw := K1.out.noop P1.out.1 HO.out
  have W1 := I1.out
  obtain ⟨q1, A, c, q2, q3⟩ := W1
  have nP : (Value.slice A (bs ++ Im.bytesOf 1 x).length c).ownBlock ≠ some P := P1.out.2 _ _ _ q2
  refine ⟨rfl, ⟨⟨(hB _).trans q1.is⟩, A, c, ⟨(hB _).trans q2.is⟩, ?_⟩, hbw, fun g G hg hf => ⟨⟨(hB _).trans (F1.out g G hg hf).1.is⟩, fun A' n' c' h' => (F1.out g G hg hf).2 A' n' c' ⟨(hB _).symm.trans h'.is⟩⟩⟩
  exact ownsRow_setCell_other (a := ⟨P, o, none⟩) q3 nP _

set_option maxRecDepth 100000 in
set_option maxHeartbeats 1000000 in
theorem layint_far (size : Nat) (x : Int) (P o : Nat) (t : TypeId) (cs : Array Value) (bs : List Int) (b Bb Bp : Nat) (w : World) (hs : size ≤ 8) (hx : 0 ≤ x ∧ x ≤ 9223372036854775807) (hbB : b ≤ Bb) (h : Wr b Bb Bp bs w) (hl : bs.length + size ≤ 65536) (hP : Box w P t cs) (ho : cs[o]? = some (.int .i64 x)) (h1 : t ≠ 27) (h2 : t ≠ 5) (h3 : t ≠ 68) :
    Calls Try.prog 51 #[.func (.func 54) #[] #[.pointer (some ⟨Bp, 0, none⟩)], .int .i64 size, .pointer (some ⟨P, o, none⟩)] w fun e w' => e = .returned (.tuple #[]) ∧ Wr b Bb Bp (bs ++ Im.bytesOf size x) w' ∧ Wrote b Bb w w' ∧ FarK Bb w w' := by
  have hvx : IntKind.u64.wrap x = x := by rw [IntKind.wrap_u64]; omega
  have hwb : IntKind.i64.wrap x = x := by rw [IntKind.wrap_i64]; omega
  have cw := Lib.hid (write_far size x bs b Bb Bp w hs (by omega) hbB h hl)
  have HH := Lib.hid h
  have HP := Lib.hid hP
  have k0 := hP.cell o
  rw [ho] at k0
  have HO := Lib.hid ho
  clear h hP ho
  go_enter Try.func51, Try.ntmps51
  go_wp2_with (go_at_call 54; ((with_reducible refine (cw.out).mono ?_); rintro e w1 ⟨rfl, hI1, hK1, hF1⟩; have P1 := Lib.hid (HP.out.wrote' hK1 HH.out.isvar h1 h2); have I1 := Lib.hid hI1; have K1 := Lib.hid hK1; have F1 := Lib.hid hF1; have k1 := P1.out.cell o; rw [HO.out] at k1; have f1 := P1.out.free o; clear hI1 hK1 hF1 k0))
  go_end0
  have hB := fun k => setCell_noop P1.out HO.out k
  exact ⟨rfl, I1.out.off (p := ⟨P, o, none⟩) P1.out h3 h1 h2 _, K1.out.noop P1.out HO.out, fun g G hg hf => ⟨⟨(hB _).trans (F1.out g G hg hf).1.is⟩, fun A' n' c' h' => (F1.out g G hg hf).2 A' n' c' ⟨(hB _).symm.trans h'.is⟩⟩⟩

theorem read_only_all (size : Nat) (z : Int) (hz : z = size) (v0 y : Int) (bs rest : List Int) (b Bb Bp : Nat) (w : World) (hs : 1 ≤ size ∧ size ≤ 8) (hB : Im.IsBytes bs) (hr : Im.rdn size bs = some (y, rest)) (hbB : b ≤ Bb) (h : Rd b Bb Bp bs w) :
    Calls Try.prog 60 #[.int .i64 z, .int .u64 v0, .pointer (some ⟨Bp, 0, none⟩)] w fun e w' => e = .returned (.int .u64 y) ∧ Rd b Bb Bp rest w' ∧ Wrote b Bb w w' ∧ OnlyB Bb w w' := by
  obtain ⟨e, h0, h1, _⟩ := Im.rdn_inv hB hr
  subst e
  have hy : y % 2 ^ (8 * size) = y := Int.emod_eq_of_lt h0 h1
  have := read_only size z hz v0 (Im.byte y) (Im.bytesOf size y) rest b Bb Bp w hs (Im.bytesOf_len _ _) (fun k hk => Im.bytesOf_at _ _ _ hk) (Im.byte_lt y) hbB h
  rwa [Im.val_byte, hy] at this
set_option maxRecDepth 100000 in
set_option maxHeartbeats 1000000 in
theorem part_u8_far (size : Nat) (z : Int) (hz : z = size) (x0 : Int) (P o : Nat) (cs : Array Value) (bs : List Int) (b Bb Bp : Nat) (w : World) (hs : 1 ≤ size ∧ size ≤ 1) (hBy : Im.IsBytes bs) (hbB : b ≤ Bb) (hbP : b ≤ P) (hbw : b ≤ w.heap.size) (h : Rd b Bb Bp bs w) (hP : Box w P 5 cs) (ho : cs[o]? = some (.int .u8 x0)) :
    Calls Try.prog 87 #[.func (.func 60) #[] #[.pointer (some ⟨Bp, 0, none⟩)], .int .i64 z, .pointer (some ⟨P, o, none⟩)] w fun e w' => (∃ y rest, Im.rdn size bs = some (y, rest) ∧ e = .returned (.tuple #[]) ∧ Rd b Bb Bp rest w' ∧ Rk b Bb P w w' ∧ Box w' P 5 (cs.setIfInBounds o (.int .u8 y)) ∧ ∀ g T G, g ≠ Bb → g ≠ P → Box w g T G → Box w' g T G) ∨ (Im.rdn size bs = none ∧ Pan e ∧ w = w') := by
  subst hz
  have HP := Lib.hid hP
  have k0 := hP.cell o
  rw [ho] at k0
  cases hr : Im.rdn size bs with
  | none =>
    have cr := fun v0 => Lib.hid (read_few size size rfl v0 bs b Bb Bp w (Im.rdn_none hr) h)
    clear h hP ho hs hr
    go_enter Try.func87, Try.ntmps87
    go_wp2_with (go_at_call 60; ((with_reducible refine ((cr _).out).mono ?_); rintro e w2 ⟨⟨s, rfl⟩, rfl⟩))
    exact ⟨rfl, .inr ⟨trivial, ⟨_, rfl⟩, rfl⟩⟩
  | some q =>
    obtain ⟨y, rest⟩ := q
    obtain ⟨_, y0, y1, _⟩ := Im.rdn_inv hBy hr
    have y2 : y < 2 ^ (8 * 1) := Int.lt_of_lt_of_le y1 (by have := Nat.pow_le_pow_right (show 0 < 2 by decide) (show 8 * size ≤ 8 * 1 by omega); exact_mod_cast this)
    have hwb : IntKind.u8.wrap y = y := by rw [IntKind.wrap_u8]; omega
    have cr := fun v0 => Lib.hid (read_only_all size size rfl v0 y bs rest b Bb Bp w (by omega) hBy hr hbB h)
    have HO := Lib.hid ho
    have HB := Lib.hid hbP
    have NE := Lib.hid (show P ≠ Bb from by obtain ⟨A, n, c, hv⟩ := h.isvar; exact Box.apart hP hv (by decide))
    have HH := Lib.hid h.isvar
    have HNP := Lib.hid (show P ≠ Bp from Box.apart hP h.ptr (by decide))
    clear h hP ho hr y0 y1 y2 hs
    go_enter Try.func87, Try.ntmps87
    go_wp2_with (go_at_call 60; ((with_reducible refine ((cr _).out).mono ?_); rintro e w1 ⟨rfl, hI1, hK1, hA1⟩; have P1 := Lib.hid (hA1 P _ _ NE.out HP.out); have I1 := Lib.hid hI1; have K1 := Lib.hid hK1; have A1 := Lib.hid hA1; have k1 := P1.out.cell o; rw [HO.out] at k1; have f1 := P1.out.free o; clear hI1 hK1 hA1 k0))
    go_end0
    obtain ⟨q1, A, c, q2, qc, q3⟩ := I1.out
    refine .inl ⟨y, rest, rfl, rfl, ⟨q1.far (p := ⟨P, o, none⟩) (fun e => HNP.out e.symm) _, A, c, q2.far (p := ⟨P, o, none⟩) (fun e => NE.out e.symm) _, qc, q3.stays fun i hi => heap_setCell_other w1 ⟨P, o, none⟩ i _ (by have := HB.out; show i ≠ P; omega)⟩, ⟨(K1.out.to hbw).setCell HB.out _, ((Kb.refl (B := P) w).wrote K1.out HH.out).put o _⟩, P1.out.put o _, fun g T G hg hp h => (A1.out g T G hg h).far (p := ⟨P, o, none⟩) hp _⟩
set_option maxRecDepth 100000 in
set_option maxHeartbeats 1000000 in
theorem part_int_far (size : Nat) (z : Int) (hz : z = size) (x0 : Int) (P o : Nat) (t : TypeId) (cs : Array Value) (bs : List Int) (b Bb Bp : Nat) (w : World) (hs : 1 ≤ size ∧ size ≤ 4) (hBy : Im.IsBytes bs) (hbB : b ≤ Bb) (hbP : b ≤ P) (hbw : b ≤ w.heap.size) (h : Rd b Bb Bp bs w) (hP : Box w P t cs) (ho : cs[o]? = some (.int .i64 x0)) (h1 : t ≠ 27) (h2 : t ≠ 5) (h3 : t ≠ 68) :
    Calls Try.prog 51 #[.func (.func 60) #[] #[.pointer (some ⟨Bp, 0, none⟩)], .int .i64 z, .pointer (some ⟨P, o, none⟩)] w fun e w' => (∃ y rest, Im.rdn size bs = some (y, rest) ∧ e = .returned (.tuple #[]) ∧ Rd b Bb Bp rest w' ∧ Rk b Bb P w w' ∧ Box w' P t (cs.setIfInBounds o (.int .i64 y)) ∧ ∀ g T G, g ≠ Bb → g ≠ P → Box w g T G → Box w' g T G) ∨ (Im.rdn size bs = none ∧ Pan e ∧ w = w') := by
  subst hz
  have HP := Lib.hid hP
  have k0 := hP.cell o
  rw [ho] at k0
  cases hr : Im.rdn size bs with
  | none =>
    have cr := fun v0 => Lib.hid (read_few size size rfl v0 bs b Bb Bp w (Im.rdn_none hr) h)
    clear h hP ho hs hr
    go_enter Try.func51, Try.ntmps51
    go_wp2_with (go_at_call 60; ((with_reducible refine ((cr _).out).mono ?_); rintro e w2 ⟨⟨s, rfl⟩, rfl⟩))
    exact ⟨rfl, .inr ⟨trivial, ⟨_, rfl⟩, rfl⟩⟩
  | some q =>
    obtain ⟨y, rest⟩ := q
    obtain ⟨_, y0, y1, _⟩ := Im.rdn_inv hBy hr
    have y2 : y < 2 ^ (8 * 4) := Int.lt_of_lt_of_le y1 (by have := Nat.pow_le_pow_right (show 0 < 2 by decide) (show 8 * size ≤ 8 * 4 by omega); exact_mod_cast this)
    have hwb : IntKind.i64.wrap y = y := by rw [IntKind.wrap_i64]; omega
    have cr := fun v0 => Lib.hid (read_only_all size size rfl v0 y bs rest b Bb Bp w (by omega) hBy hr hbB h)
    have HO := Lib.hid ho
    have HB := Lib.hid hbP
    have NE := Lib.hid (show P ≠ Bb from by obtain ⟨A, n, c, hv⟩ := h.isvar; exact Box.apart hP hv h1)
    have HH := Lib.hid h.isvar
    have HNP := Lib.hid (show P ≠ Bp from Box.apart hP h.ptr h3)
    clear h hP ho hr y0 y1 y2 hs
    go_enter Try.func51, Try.ntmps51
    go_wp2_with (go_at_call 60; ((with_reducible refine ((cr _).out).mono ?_); rintro e w1 ⟨rfl, hI1, hK1, hA1⟩; have P1 := Lib.hid (hA1 P _ _ NE.out HP.out); have I1 := Lib.hid hI1; have K1 := Lib.hid hK1; have A1 := Lib.hid hA1; have k1 := P1.out.cell o; rw [HO.out] at k1; have f1 := P1.out.free o; clear hI1 hK1 hA1 k0))
    go_end0
    obtain ⟨q1, A, c, q2, qc, q3⟩ := I1.out
    refine .inl ⟨y, rest, rfl, rfl, ⟨q1.far (p := ⟨P, o, none⟩) (fun e => HNP.out e.symm) _, A, c, q2.far (p := ⟨P, o, none⟩) (fun e => NE.out e.symm) _, qc, q3.stays fun i hi => heap_setCell_other w1 ⟨P, o, none⟩ i _ (by have := HB.out; show i ≠ P; omega)⟩, ⟨(K1.out.to hbw).setCell HB.out _, ((Kb.refl (B := P) w).wrote K1.out HH.out).put o _⟩, P1.out.put o _, fun g T G hg hp h => (A1.out g T G hg h).far (p := ⟨P, o, none⟩) hp _⟩
end Go.Proofs.Ytgmlbimgcifenaa
namespace Im
open Go
/-- How many bytes there are, and these. -/
def getB (size : Nat) (bs : List Int) : Option (List Int × List Int) := (rdn size bs).bind fun n => if n.1.toNat ≤ n.2.length then some (n.2.take n.1.toNat, n.2.drop n.1.toNat) else none
theorem bytesOf_one {x : Int} (h : 0 ≤ x ∧ x ≤ 255) : bytesOf 1 x = [x] := by
  show [] ++ [x / 2 ^ (8 * 0) % 256] = [x]
  simp
  omega
theorem rdn_one {bs : List Int} {y : Int} {rest : List Int} (h : rdn 1 bs = some (y, rest)) : bs = y :: rest := by
  unfold rdn at h
  cases bs with
  | nil => rw [if_neg (by simp)] at h; cases h
  | cons a l =>
    rw [if_pos (by simp)] at h
    injection h with h
    injection h with h1 h2
    rw [← h1, ← h2]
    simp [val, List.getD]
theorem u8s_at {l : List Int} {k : Nat} (h : k < l.length) : (u8s l)[k]? = some (.int .u8 l[k]) := by
  unfold u8s
  rw [List.getElem?_map, List.getElem?_eq_getElem h]
  rfl
end Im
namespace Go.Proofs.Ytgmlbimgcifenaa
open Go.RowKit Go.Shelf
set_option linter.unusedVariables false
set_option linter.unusedSimpArgs false

/-- As many cells as the shorter of the two has are copied; those behind stay. -/
theorem run_copy_upto {P : Program} (w : World) (dT sT ty elem : TypeId) (c g dLen dCap : Nat) (a : Addr) (sLen sCap : Nat) (cur : Array Value) (t : TypeId) (cs : List Value)
    (hu : P.underlying dT = some (.slice elem)) (hs : (P.info? elem).map (·.size) = some c)
    (hg : w.heap[g]? = some (.cells cur t (0, 0))) (hn : cs.length = Nat.min sLen dLen * c)
    (hsrc : ∀ j v, cs[j]? = some v → w.cell? (a.add j) = some v) (hfit : cs.length ≤ cur.size) (h1 : ∀ v ∈ cs, v.oneCell' = true) :
    (Builtin.copy_ #[dT, sT] ty #[.slice (some ⟨g, 0, none⟩) dLen dCap, .slice (some a) sLen sCap]).run P w =
      .ok (goInt (Nat.min sLen dLen)) (w.setRow g (cs ++ cur.toList.drop cs.length).toArray) := by
  have hl := run_loadCells_list (P := P) w a cs hsrc
  have hst := run_storeCells_at P g 0 t cs 0 cur w hg (by simp; omega) h1
  have hz : (List.take (0 + 0) cur.toList ++ cs ++ List.drop (0 + 0 + cs.length) cur.toList).toArray = (cs ++ cur.toList.drop cs.length).toArray := by
    congr 1
    simp
  cases hq : P.info? elem with
  | none => simp [hq] at hs
  | some i =>
    have hi : i.size = c := by simpa [hq] using hs
    rw [hz] at hst
    simp [Builtin.copy_, run_underlying hu, Builtin.lenOf, Builtin.firstCells, sizeOf, typeInfo, hq, hi, ← hn, hl, hst]
theorem Wr.far_new {b Bb Bp S : Nat} {bs : List Int} {w : World} (h : Wr b Bb Bp bs w) (hS : w.heap.size ≤ S) : Far S Bb w := fun A n c hB => by
  obtain ⟨_, A', c', h2, h3⟩ := h
  rw [hB.is_one h2]
  obtain ⟨_, ⟨e, _⟩ | ⟨g, cap, cur, e, _, hg, _⟩⟩ := h3
  · rw [e]; intro h; cases h
  · rw [e]
    intro h
    have h : g = S := by injection h
    have := (Array.getElem?_eq_some_iff.1 hg).1
    omega
theorem Wr.var_lt {b Bb Bp : Nat} {bs : List Int} {w : World} (h : Wr b Bb Bp bs w) : Bb < w.heap.size := by
  obtain ⟨A, n, c, hv⟩ := h.isvar
  exact hv.lt
theorem Wr.off' {b Bb Bp : Nat} {bs : List Int} {W : World} (h : Wr b Bb Bp bs W) {p : Addr} {t : TypeId} {cs : Array Value} (hp : Box W p.block t cs) (h1 : t ≠ 68) (h2 : p.block ≠ Bb) (h3 : t ≠ 5) (u : Value) : Wr b Bb Bp bs (W.setCell p u) := by
  obtain ⟨k1, A, c, k2, k3⟩ := h
  exact ⟨k1.far (fun e => Box.apart k1 hp (fun e' => h1 e'.symm) e) u, A, c, k2.far (fun e => h2 e.symm) u, ownsRow_setCell_other k3 (hp.unowned k3 (fun e => h3 e.symm)) u⟩
theorem Rd.off' {b Bb Bp : Nat} {bs : List Int} {W : World} (h : Rd b Bb Bp bs W) {p : Addr} {t : TypeId} {cs : Array Value} (hp : Box W p.block t cs) (h1 : t ≠ 68) (h2 : p.block ≠ Bb) (hb : b ≤ p.block) (u : Value) : Rd b Bb Bp bs (W.setCell p u) := by
  obtain ⟨k1, A, c, k2, kc, k3⟩ := h
  exact ⟨k1.far (fun e => Box.apart k1 hp (fun e' => h1 e'.symm) e) u, A, c, k2.far (fun e => h2 e.symm) u, kc, k3.stays fun i hi => heap_setCell_other W p i u (by omega)⟩
theorem laybyte_w (x : Int) (P o : Nat) (cs : Array Value) (bs : List Int) (b Bb Bp : Nat) (w : World) (hx : 0 ≤ x ∧ x ≤ 255) (hbB : b ≤ Bb) (h : Wr b Bb Bp bs w) (hl : bs.length + 1 ≤ 65536) (hP : Box w P 5 cs) (hF : Far P Bb w) (ho : cs[o]? = some (.int .u8 x)) :
    Calls Try.prog 84 #[.func (.func 54) #[] #[.pointer (some ⟨Bp, 0, none⟩)], .pointer (some ⟨P, o, none⟩)] w fun e w' => e = .returned (.tuple #[]) ∧ Wr b Bb Bp (bs ++ Im.bytesOf 1 x) w' ∧ Wrote b Bb w w' ∧ FarK Bb w w' := by
  have c1 := Lib.hid (layu8_far x P o cs bs b Bb Bp w hx hbB h hl hP hF ho)
  clear h hP hF ho
  go_enter Try.func84, Try.ntmps84
  go_wp2_with (go_at_call 87; ((with_reducible refine (c1.out).mono ?_); rintro e w1 ⟨rfl, hI, hK, hF⟩))
  go_end0
  exact ⟨rfl, hI, hK, hF⟩
theorem laybyte_r (x0 : Int) (P o : Nat) (cs : Array Value) (bs : List Int) (b Bb Bp : Nat) (w : World) (hBy : Im.IsBytes bs) (hbB : b ≤ Bb) (hbP : b ≤ P) (hbw : b ≤ w.heap.size) (h : Rd b Bb Bp bs w) (hP : Box w P 5 cs) (ho : cs[o]? = some (.int .u8 x0)) :
    Calls Try.prog 84 #[.func (.func 60) #[] #[.pointer (some ⟨Bp, 0, none⟩)], .pointer (some ⟨P, o, none⟩)] w fun e w' => (∃ y rest, Im.rdn 1 bs = some (y, rest) ∧ e = .returned (.tuple #[]) ∧ Rd b Bb Bp rest w' ∧ Rk b Bb P w w' ∧ Box w' P 5 (cs.setIfInBounds o (.int .u8 y)) ∧ ∀ g T G, g ≠ Bb → g ≠ P → Box w g T G → Box w' g T G) ∨ (Im.rdn 1 bs = none ∧ Pan e ∧ w = w') := by
  have c1 := Lib.hid (part_u8_far 1 1 rfl x0 P o cs bs b Bb Bp w (by decide) hBy hbB hbP hbw h hP ho)
  clear h hP ho
  go_enter Try.func84, Try.ntmps84
  go_wp2_with (go_at_call 87; ((with_reducible refine (c1.out).mono ?_); rintro e w1 (⟨y, rest, hr, rfl, hI, hK, hB, hA⟩ | ⟨hr, ⟨ss, rfl⟩, rfl⟩)))
  · go_end0
    exact .inl ⟨y, rest, hr, rfl, hI, hK, hB, hA⟩
  · exact ⟨rfl, .inr ⟨hr, ⟨_, rfl⟩, rfl⟩⟩

set_option maxRecDepth 100000 in
set_option maxHeartbeats 4000000 in
theorem listby_w (l : List Int) (n : Nat) (A : Option Addr) (c size : Nat) (z : Int) (hz : z = size) (P o : Nat) (t : TypeId) (cs : Array Value) (bs : List Int) (b Bb Bp : Nat) (w : World) (hn : l.length = n) (hn16 : n ≤ 4096) (hs : size ≤ 8) (hbB : b ≤ Bb) (hbP : b ≤ P) (hbw : b ≤ w.heap.size) (h : Wr b Bb Bp bs w) (hl : bs.length + size + l.length ≤ 65536) (hP : Box w P t cs) (hPB : P ≠ Bb) (hBy : Im.IsBytes l)
    (ho : cs[o]? = some (.slice A n c)) (hL : ∀ X, Below b w X → FarK Bb w X → Lies X X.heap.size 1 A n (Im.u8s l)) (h2 : t ≠ 5) (h3 : t ≠ 68) :
    Calls Try.prog 83 #[.func (.func 54) #[] #[.pointer (some ⟨Bp, 0, none⟩)], .int .i64 z, .pointer (some ⟨P, o, none⟩), .func (.func 84) #[] #[]] w fun e w' => e = .returned (.tuple #[]) ∧ Wr b Bb Bp (bs ++ (Im.bytesOf size n ++ l)) w' ∧ Below b w w' ∧ Kb P w w' ∧ VarK Bb P w w' ∧ ∃ S, w.heap.size ≤ S ∧ Box w' P t (cs.setIfInBounds o (.slice (some ⟨S, 0, none⟩) n n)) ∧ Box w' S 5 (Im.u8s l).toArray := by
  subst hz
  have k0 := hP.cell o
  rw [ho] at k0
  have ltP := hP.lt
  have HL := Lib.hid (Box.made w 3 #[.int .i64 n])
  have HPA := Lib.hid (hP.alloc (.cells #[.int .i64 n] 3))
  have HA := Lib.hid (h.alloc (.cells #[.int .i64 n] 3))
  have WA := Lib.hid ((Wrote.refl hbB w).alloc (.cells #[.int .i64 n] 3))
  have KA := Lib.hid ((Kb.refl (B := P) w).call (one_below w (.cells #[.int .i64 n] 3)))
  have VA := Lib.hid ((VarK.refl (Bb := Bb) (P := P) w).call (one_below w (.cells #[.int .i64 n] 3)))
  have FA := Lib.hid ((FarK.refl (Bb := Bb) w).call (one_below w (.cells #[.int .i64 n] 3)) h.var_lt)
  have c1 := Lib.hid (layint_far size n w.heap.size 0 3 #[.int .i64 n] bs b Bb Bp _ hs (by omega) hbB HA.out (by omega) HL.out rfl (by decide) (by decide) (by decide))
  have hvar := Lib.hid HA.out.isvar
  have HO := Lib.hid ho
  have HLs := Lib.hid hL
  obtain ⟨i0, hi0, hz0, hz1, hz2⟩ := u8_parts
  obtain ⟨Z, hZ⟩ : ∃ Z, Z = madeCells (Value.int .u8 0).cells (n * 1) := ⟨_, rfl⟩
  have hZs : Z.size = n * 1 := by rw [hZ, size_madeCells]
  have hCs : (Im.u8s l).length = n := by rw [Im.u8s_len, hn]
  have hmk : ∀ W : World, (Instr.makeSlice 27 (.int .i64 (n : Int)) (.int .i64 (n : Int))).run Try.prog W = .ok (.slice (some ⟨W.heap.size, 0, none⟩) n n) (W.alloc (.cells Z 5)) := fun W => by
    have := run_make (P := Try.prog) W 27 5 i0 _ Try.underlying27 hi0 hz0 .i64 .i64 n n (by omega) (Int.le_refl _) (by rw [hz2]; omega) (by omega)
    rw [this, hZ, hz1, Int.toNat_natCast]
  have hcp : ∀ W : World, Lies W W.heap.size 1 A n (Im.u8s l) → (Builtin.copy_ #[27, 27] 3 #[.slice (some ⟨W.heap.size, 0, none⟩) n n, .slice A n c]).run Try.prog (W.alloc (.cells Z 5)) = .ok (.int .i64 n) (W.alloc (.cells (Im.u8s l).toArray 5)) := fun W hW => by
    cases A with
    | none =>
      have hn0 : n = 0 := by
        by_cases h0 : n = 0
        · exact h0
        · obtain ⟨ad, e, _⟩ := hW.start h0
          cases e
      have hl0 : Im.u8s l = [] := List.eq_nil_of_length_eq_zero (by omega)
      have hz : Z = #[] := Array.eq_empty_of_size_eq_zero (by omega)
      have := run_copy_nought (P := Try.prog) (W.alloc (.cells Z 5)) 27 27 3 5 ⟨W.heap.size, 0, none⟩ n n c Try.underlying27 (by rw [Option.isSome_map]; rw [hi0]; rfl)
      rw [hn0] at this ⊢
      rw [hl0]
      rw [hz] at this ⊢
      simpa [goInt] using this
    | some ad =>
      have hc : ∀ j v, (Im.u8s l)[j]? = some v → (W.alloc (.cells Z 5)).cell? (ad.add j) = some v := fun j v hv => by
        have hn0 : n ≠ 0 := fun e => by
          have := (List.getElem?_eq_some_iff.1 hv).1
          omega
        exact (hW.below (one_below W (.cells Z 5))).cell ad rfl hn0 j v hv
      have := run_copy_rows (P := Try.prog) (W.alloc (.cells Z 5)) 27 27 3 5 1 W.heap.size n n ad n c Z 5 (Im.u8s l) Try.underlying27 (by rw [hi0, Option.map_some, hz1]) (Box.made W _ _).is (by rw [hW.len]; simp) hc (by rw [hW.len, hZs]) (Im.u8s_one l)
      rw [World.setRow_alloc_new] at this
      simpa [goInt] using this
  have NL := Lib.hid hn
  have HCS := Lib.hid hCs
  have HY := Lib.hid hBy
  clear h hP ho hL hZ hn hCs hBy
  go_enter Try.func83, Try.ntmps83
  go_upto_region 2 with (go_at_call 51; ((with_reducible refine (c1.out).mono ?_); rintro e w1 ⟨rfl, hI1, hK1, hF1⟩; have L1 := HL.out.wrote' hK1 hvar.out (by decide) (by decide); have l1 := L1.cell 0; have P1 := Lib.hid (HPA.out.wrote hK1 hPB h2); have I1 := Lib.hid hI1; have K1 := Lib.hid (WA.out.trans hK1); have B1 := Lib.hid (KA.out.wrote hK1 hvar.out); have F1 := Lib.hid (FA.out.trans hF1); have V1 := Lib.hid (VA.out.wrote hK1); clear hI1 hK1 hF1 L1 k0))
  have lw1 := HLs.out w1 (K1.out.to hbw) F1.out
  have hcpw := hcp w1 lw1
  have p58 : ∀ x, (w1.alloc x).cell? ⟨P, o, none⟩ = some (.slice A n c) := fun x => ((P1.out.alloc x).cell o).trans HO.out
  have sz1 : w.heap.size ≤ w1.heap.size := K1.out.size
  clear hcp lw1 HLs HL HPA HA WA KA VA FA c1
  go_upto_region 4 with fail
  obtain ⟨U, hU⟩ : ∃ U, U = w1.alloc (.cells (Im.u8s l).toArray 5) := ⟨_, rfl⟩
  have PU : Box U P t cs := by rw [hU]; exact P1.out.alloc _
  have SU : Box U w1.heap.size 5 (Im.u8s l).toArray := by rw [hU]; exact Box.made w1 _ _
  have IU : Wr b Bb Bp (bs ++ Im.bytesOf size n) U := by rw [hU]; exact I1.out.alloc _
  have BU : Below b w U := by rw [hU]; exact (K1.out.to hbw).alloc (Nat.le_trans hbw sz1) _
  have KU : Kb P w U := by rw [hU]; exact B1.out.call (one_below _ _)
  have VU : VarK Bb P w U := by rw [hU]; exact V1.out.call (one_below _ _)
  have FU : Far w1.heap.size Bb U := by rw [hU]; exact (I1.out.far_new (Nat.le_refl _)).call (one_below _ _) I1.out.var_lt
  have hSP : w1.heap.size ≠ P := by have := P1.out.lt; omega
  have hbS : b ≤ w1.heap.size := Nat.le_trans hbw sz1
  have hSw : w.heap.size ≤ w1.heap.size := sz1
  rw [← hU]
  generalize w1.heap.size = S at *
  have IU := Lib.hid IU
  have PU := Lib.hid PU
  have SU := Lib.hid SU
  have BU := Lib.hid BU
  have KU := Lib.hid KU
  have FU := Lib.hid FU
  have VU := Lib.hid VU
  clear hU I1 K1 P1 B1 F1 V1 p58 hcpw hmk l1 hvar sz1
  go_upto_region 5 with fail
  go_loopw [10, 27] (fun _ i wr => ∃ k : Nat, k ≤ n ∧ i = .int .i64 k ∧ Wr b Bb Bp (bs ++ Im.bytesOf size n ++ l.take k) wr ∧ Wrote b Bb U wr ∧ FarK Bb U wr) (fun _ i _ => n - (intOf i).toNat)
  case atStart => exact ⟨0, by omega, rfl, by simpa using IU.out, Wrote.refl hbB U, FarK.refl U⟩
  case round =>
    obtain ⟨k, hk, rfl, hI, hK, hF⟩ := hrel
    by_cases hlt : k < n
    · have hk8 : (k : Int) < n := by omega
      have hkl : k < l.length := by have := NL.out; omega
      have hx := HY.out l[k] (List.getElem_mem hkl)
      have HT := Lib.hid (show l.take (k + 1) = l.take k ++ Im.bytesOf 1 l[k] by rw [Im.bytesOf_one hx, List.take_succ_eq_append_getElem hkl])
      have sw := hF S _ SU.out FU.out
      have cc := Lib.hid (laybyte_w l[k] S k _ (bs ++ Im.bytesOf size n ++ l.take k) b Bb Bp wr hx hbB hI (by rw [List.length_append, List.length_append, Im.bytesOf_len, List.length_take]; omega) sw.1 sw.2 (by rw [List.getElem?_toArray]; exact Im.u8s_at hkl))
      have HK := Lib.hid hK
      have HF := Lib.hid hF
      clear hI hK hF sw hx
      go_wp2_with (go_at_call 84; ((with_reducible refine (cc.out).mono ?_); rintro e w3 ⟨rfl, hI, hK, hF⟩; have I3 := Lib.hid hI; have K3 := Lib.hid (HK.out.trans hK); have F3 := Lib.hid (HF.out.trans hF); clear hI hK hF))
      go_roundw
      case rel => exact ⟨k + 1, by omega, by go_num, by rw [HT.out, ← List.append_assoc]; exact I3.out, K3.out, F3.out⟩
      case measure => simp [intOf]; omega
    · have hk8 : ¬ (k : Int) < n := by omega
      obtain rfl : k = n := by omega
      have ht : l.take k = l := List.take_of_length_le (by have := NL.out; omega)
      rw [ht] at hI
      have HI := Lib.hid hI
      have HK := Lib.hid hK
      have SW := Lib.hid (hF S _ SU.out FU.out)
      have PW := Lib.hid (PU.out.wrote hK hPB h2)
      have pc : wr.cell? ⟨P, o, none⟩ = some (.slice A k c) := (PW.out.cell o).trans HO.out
      have pf : wr.frozen? ⟨P, o, none⟩ = false := PW.out.free o
      have IVU := Lib.hid IU.out.isvar
      clear hI hK hF
      go_wp2
      go_end0
      exact ⟨rfl, by rw [← List.append_assoc]; exact HI.out.off' (p := ⟨P, o, none⟩) PW.out h3 hPB h2 _, (BU.out.trans (HK.out.to (Nat.le_trans hbw BU.out.size))).setCell hbP _, (KU.out.wrote HK.out IVU.out).put o _, (VU.out.wrote HK.out).put o _, S, hSw, PW.out.put o _, SW.out.1.far hSP _⟩

/-- What is left behind a list of bytes. -/
def GotB (size : Nat) (bs : List Int) (b Bb Bp P o : Nat) (t : TypeId) (cs : Array Value) (w : World) (e : Ending) (w' : World) : Prop :=
      (∃ l rest S, Im.getB size bs = some (l, rest) ∧ e = .returned (.tuple #[]) ∧ Im.IsBytes l ∧ Im.IsBytes rest ∧ l.length < 65536 ∧ Rd b Bb Bp rest w' ∧ Rk b Bb P w w' ∧ w.heap.size ≤ S ∧ Box w' P t (cs.setIfInBounds o (.slice (some ⟨S, 0, none⟩) l.length l.length)) ∧ Box w' S 5 (Im.u8s l).toArray ∧ ∀ g T G, g ≠ Bb → g ≠ P → Box w g T G → Box w' g T G) ∨
      (Im.getB size bs = none ∧ Pan e ∧ Rk b Bb P w w' ∧ Box w' P t cs)
set_option maxRecDepth 100000 in
set_option maxHeartbeats 4000000 in
theorem listby_r (l0 : List Int) (A0 : Option Addr) (n0 c0 : Nat) (size : Nat) (z : Int) (hz : z = size) (P o : Nat) (t : TypeId) (cs : Array Value) (bs : List Int) (b Bb Bp : Nat) (w : World) (hBy : Im.IsBytes bs) (hs : 1 ≤ size ∧ size ≤ 2) (hbB : b ≤ Bb) (hbP : b ≤ P) (hbw : b ≤ w.heap.size) (h : Rd b Bb Bp bs w) (hP : Box w P t cs) (hPB : P ≠ Bb) (hn0 : n0 ≤ 4096)
    (ho : cs[o]? = some (.slice A0 n0 c0)) (hL : ∀ X, (∀ g T G, g ≠ Bb → Box w g T G → Box X g T G) → Lies X X.heap.size 1 A0 n0 (Im.u8s l0)) (h2 : t ≠ 5) (h3 : t ≠ 68) :
    Calls Try.prog 83 #[.func (.func 60) #[] #[.pointer (some ⟨Bp, 0, none⟩)], .int .i64 z, .pointer (some ⟨P, o, none⟩), .func (.func 84) #[] #[]] w (GotB size bs b Bb Bp P o t cs w) := by
  subst hz
  have k0 := hP.cell o
  rw [ho] at k0
  have ltP := hP.lt
  have HPA := Lib.hid (hP.alloc (.cells #[.int .i64 n0] 3))
  have HKA := Lib.hid (Rk.alloc (w := w) (Bb := Bb) (P := P) hbw (.cells #[.int .i64 n0] 3))
  have c1 := Lib.hid (part_int_far size size rfl n0 w.heap.size 0 3 #[.int .i64 n0] bs b Bb Bp _ (by omega) hBy hbB hbw (by simp <;> omega) (h.call (one_below w (.cells #[.int .i64 n0] 3)) hbw) (Box.made w 3 #[.int .i64 n0]) rfl (by decide) (by decide) (by decide))
  obtain ⟨i0, hi0, hz0, hz1, hz2⟩ := u8_parts
  have hmk : ∀ (n : Nat), n < 65536 → ∀ W : World, (Instr.makeSlice 27 (.int .i64 (n : Int)) (.int .i64 (n : Int))).run Try.prog W = .ok (.slice (some ⟨W.heap.size, 0, none⟩) n n) (W.alloc (.cells (madeCells (Value.int .u8 0).cells (n * 1)) 5)) := fun n hn W => by
    have := run_make (P := Try.prog) W 27 5 i0 _ Try.underlying27 hi0 hz0 .i64 .i64 n n (by omega) (Int.le_refl _) (by rw [hz2]; omega) (by omega)
    rw [this, hz1, Int.toNat_natCast]
  have hcp : ∀ (n : Nat) (Z : Array Value) (W : World), Z.size = n → (∀ j, j < n → ∃ v, Z[j]? = some (.int .u8 v)) → Lies W W.heap.size 1 A0 n0 (Im.u8s l0) → ∃ Y : Array Value, Y.size = n ∧ (∀ j, j < n → ∃ v, Y[j]? = some (.int .u8 v)) ∧ (Builtin.copy_ #[27, 27] 3 #[.slice (some ⟨W.heap.size, 0, none⟩) n n, .slice A0 n0 c0]).run Try.prog (W.alloc (.cells Z 5)) = .ok (.int .i64 (Nat.min n0 n)) (W.alloc (.cells Y 5)) := fun n Z W hZs hZc hW => by
    have hll : l0.length = n0 := by have := hW.len; rw [Im.u8s_len] at this; omega
    cases A0 with
    | none =>
      have e0 : n0 = 0 := by
        by_cases h0 : n0 = 0
        · exact h0
        · obtain ⟨ad, e, _⟩ := hW.start h0
          cases e
      subst e0
      refine ⟨Z, hZs, hZc, ?_⟩
      have := run_copy_nought (P := Try.prog) (W.alloc (.cells Z 5)) 27 27 3 5 ⟨W.heap.size, 0, none⟩ n n c0 Try.underlying27 (by rw [Option.isSome_map]; rw [hi0]; rfl)
      rw [show Nat.min 0 n = 0 from Nat.zero_min n]
      simpa [goInt] using this
    | some ad =>
      have hm1 : Nat.min n0 n ≤ n0 := Nat.min_le_left _ _
      have hm2 : Nat.min n0 n ≤ n := Nat.min_le_right _ _
      generalize hm : Nat.min n0 n = m at *
      have hcl : (Im.u8s (l0.take m)).length = m := by rw [Im.u8s_len, List.length_take]; omega
      have hc : ∀ j v, (Im.u8s (l0.take m))[j]? = some v → (W.alloc (.cells Z 5)).cell? (ad.add j) = some v := fun j v hv => by
        have hj := (List.getElem?_eq_some_iff.1 hv).1
        refine (hW.below (one_below W (.cells Z 5))).cell ad rfl (by omega) j v ?_
        rw [← hv]
        unfold Im.u8s
        rw [List.getElem?_map, List.getElem?_map, List.getElem?_take, if_pos (by omega)]
      have := run_copy_upto (P := Try.prog) (W.alloc (.cells Z 5)) 27 27 3 5 1 W.heap.size n n ad n0 c0 Z 5 (Im.u8s (l0.take m)) Try.underlying27 (by rw [hi0, Option.map_some, hz1]) (Box.made W _ _).is (by rw [hcl, hm]; omega) hc (by omega) (Im.u8s_one _)
      rw [World.setRow_alloc_new, hm] at this
      refine ⟨_, ?_, fun j hj => ?_, by simpa [goInt] using this⟩
      · simp only [List.size_toArray, List.length_append, List.length_drop, Array.length_toList, hcl]; omega
      · rw [List.getElem?_toArray]
        by_cases hjm : j < m
        · rw [List.getElem?_append_left (by omega)]
          exact ⟨_, Im.u8s_at (by rw [List.length_take]; omega)⟩
        · obtain ⟨v, hv⟩ := hZc j hj
          refine ⟨v, ?_⟩
          rw [List.getElem?_append_right (by omega), List.getElem?_drop, hcl, show m + (j - m) = j by omega, Array.getElem?_toList, hv]
  have HO := Lib.hid ho
  have HB := Lib.hid hbP
  have HW := Lib.hid hbw
  have HY := Lib.hid hBy
  have HLS := Lib.hid hL
  have HS := Lib.hid hs
  clear h hP ho hBy hs hL
  go_enter Try.func83, Try.ntmps83
  go_upto_region 2 with (go_at_call 51; ((with_reducible refine (c1.out).mono ?_); rintro r w1 (⟨m, r1, hr, rfl, hI, hK, hB1, hA1⟩ | ⟨hn, ⟨ss, rfl⟩, rfl⟩); (all_goals first | (have R1 := Lib.hid hr; have Y1 := Lib.hid (Im.rdn_inv HY.out hr); have l1 := hB1.cell 0; have P1 := Lib.hid (hA1 _ _ _ hPB (by omega) HPA.out); have O1 := Lib.hid (fun g T G hg (hB : Box w g T G) => hA1 g T G hg (by have := hB.lt; omega) (hB.alloc (.cells #[.int .i64 n0] 3))); have I1 := Lib.hid hI; have K1 := Lib.hid (HKA.out.local hK (Nat.le_refl _)); clear hr hI hK hB1 hA1 c1 k0) | (have N1 := Lib.hid hn; clear hn c1 k0))))
  rotate_left
  · refine ⟨rfl, .inr ⟨?_, ⟨_, rfl⟩, HKA.out, HPA.out⟩⟩
    unfold Im.getB
    rw [N1.out, Option.bind_none]
  obtain ⟨n, hmn⟩ : ∃ n : Nat, m = n := ⟨m.toNat, by have := Y1.out.2.1; omega⟩
  subst hmn
  have hn256 : n < 65536 := by
    have h1 := Y1.out.2.2.1
    have h2 : (2 : Int) ^ (8 * size) ≤ 2 ^ 16 := by
      have := Nat.pow_le_pow_right (show 0 < 2 by decide) (show 8 * size ≤ 16 by have := HS.out; omega)
      exact_mod_cast this
    omega
  have HDE := Lib.hid (show Im.getB size bs = if n ≤ r1.length then some (r1.take n, r1.drop n) else none by unfold Im.getB; rw [R1.out, Option.bind_some, Int.toNat_natCast])
  simp only [List.getElem?_toArray, Array.setIfInBounds, List.size_toArray, List.length_cons, List.length_nil, Nat.zero_add, Nat.lt_add_one, dite_true, List.set_toArray, List.set_cons_zero, List.getElem?_cons_zero] at l1
  have hmkn := hmk n hn256
  obtain ⟨Z, hZ⟩ : ∃ Z, Z = madeCells (Value.int .u8 0).cells (n * 1) := ⟨_, rfl⟩
  rw [← hZ] at hmkn
  obtain ⟨Y0, hY0s, hY0c, hcpw⟩ := hcp n Z w1 (by rw [hZ, size_madeCells]; omega) (fun j hj => ⟨0, by
    have := made_rows (Value.int .u8 0).cells n (by decide) j
    rw [hZ]
    rw [if_neg (by omega), if_pos (show j < n * (Value.int .u8 0).cells.size by show j < n * 1; omega)] at this
    rw [show n * 1 = n * (Value.int .u8 0).cells.size from rfl, this]
    show [Value.int .u8 0][j % 1]? = _
    rw [Nat.mod_one]; rfl⟩) (HLS.out w1 O1.out)
  have p58 : ∀ x, (w1.alloc x).cell? ⟨P, o, none⟩ = some (.slice A0 n0 c0) := fun x => ((P1.out.alloc x).cell o).trans HO.out
  have s1 := Nat.le_trans HW.out K1.out.below.size
  have sz1 := K1.out.below.size
  have HY0s := Lib.hid hY0s
  have HY0c := Lib.hid hY0c
  clear hcp HPA HKA hmk hZ hY0s hY0c
  go_upto_region 4 with fail
  obtain ⟨U, hU⟩ : ∃ U, U = w1.alloc (.cells Y0 5) := ⟨_, rfl⟩
  have PU := Lib.hid (show Box U P t cs by (rw [hU]; exact P1.out.alloc _))
  have SU := Lib.hid (show Box U w1.heap.size 5 Y0 by (rw [hU]; exact Box.made w1 _ _))
  have IU := Lib.hid (show Rd b Bb Bp r1 U by (rw [hU]; exact I1.out.call (one_below w1 _) s1))
  have KU := Lib.hid (show Rk b Bb P w U by (rw [hU]; exact K1.out.trans (Rk.alloc (w := w1) (Bb := Bb) (P := P) s1 _)))
  have OU := Lib.hid (show ∀ g T G, g ≠ Bb → Box w g T G → Box U g T G ∧ g ≠ w1.heap.size from fun g T G hg hB => by have h1 := O1.out g T G hg hB; exact ⟨by rw [hU]; exact h1.alloc _, by have := h1.lt; omega⟩)
  have hSB : Hid (w1.heap.size ≠ P) := Lib.hid (by have := P1.out.lt; omega)
  have hSw : Hid (b ≤ w1.heap.size) := Lib.hid s1
  have hSz : Hid (w.heap.size ≤ w1.heap.size) := Lib.hid sz1
  rw [← hU]
  generalize w1.heap.size = S at *
  clear hU I1 K1 P1 O1 p58 hcpw hmkn l1 s1 sz1
  have hbU : b ≤ U.heap.size := Nat.le_trans HW.out KU.out.below.size
  go_upto_region 5 with fail
  go_loopw [10, 27] (fun _ i wr => ∃ (k : Nat) (Y : Array Value), k ≤ n ∧ i = .int .i64 k ∧ k ≤ r1.length ∧ Rd b Bb Bp (r1.drop k) wr ∧ Rk b Bb S U wr ∧ Box wr S 5 Y ∧ Y.size = n ∧ (∀ j, j < n → ∃ v, Y[j]? = some (.int .u8 v)) ∧ (∀ j, j < k → Y[j]? = some (.int .u8 (r1.getD j 0))) ∧ (∀ g T G, g ≠ Bb → g ≠ S → Box U g T G → Box wr g T G)) (fun _ i _ => n - (intOf i).toNat)
  case atStart => exact ⟨0, Y0, by omega, rfl, by omega, by simpa using IU.out, Rk.refl _ _ _ _, SU.out, HY0s.out, HY0c.out, fun j h => by omega, fun _ _ _ _ _ h => h⟩
  case round =>
    obtain ⟨k, Y, hk, rfl, hkr, hI, hK, hB, hYs, hYc, hYd, hO⟩ := hrel
    by_cases hlt : k < n
    · have hk8 : (k : Int) < n := by omega
      have hwy : b ≤ wr.heap.size := Nat.le_trans hbU hK.below.size
      obtain ⟨v0, hv0⟩ := hYc k hlt
      have cc := Lib.hid (laybyte_r v0 S k Y (r1.drop k) b Bb Bp wr (Y1.out.2.2.2.drop k) hbB hSw.out hwy hI hB hv0)
      have K2 := Lib.hid hK
      have HO2 := Lib.hid hO
      have HYs := Lib.hid hYs
      have HYc := Lib.hid hYc
      have HYd := Lib.hid hYd
      clear hI hK hB hwy hYs hYc hYd hO hv0
      go_wp2_with (go_at_call 84; ((with_reducible refine (cc.out).mono ?_); rintro e w3 (⟨y, r3, hr, rfl, hI, hK, hB, hA⟩ | ⟨hn, ⟨ss, rfl⟩, rfl⟩); (all_goals first | (have R3 := Lib.hid (Im.rdn_one hr); have I3 := Lib.hid hI; have K3 := Lib.hid (K2.out.trans hK); have B3 := Lib.hid hB; have O3 := Lib.hid (fun g T G h1 h2 (h : Box U g T G) => hA g T G h1 h2 (HO2.out g T G h1 h2 h)); clear hr hI hK hB hA) | (have N3 := Lib.hid (Im.rdn_none hn); clear hn))))
      · go_roundw
        case rel =>
          have hlen : k < r1.length := by
            have := congrArg List.length R3.out
            rw [List.length_drop, List.length_cons] at this
            omega
          have hd : r1.drop (k + 1) = r3 := by
            have := congrArg (List.drop 1) R3.out
            rwa [List.drop_drop, List.drop_succ_cons, List.drop_zero] at this
          have hy : r1.getD k 0 = y := by
            have := congrArg (fun q => q[0]?) R3.out
            simp only [List.getElem?_drop, Nat.add_zero, List.getElem?_cons_zero] at this
            simp [List.getD, this]
          refine ⟨k + 1, Y.setIfInBounds k (.int .u8 y), by omega, by go_num, by omega, by rw [hd]; exact I3.out, K3.out, B3.out, by rw [Array.size_setIfInBounds]; exact HYs.out, fun j hj => ?_, fun j hj => ?_, O3.out⟩
          · by_cases e : k = j
            · subst e; exact ⟨y, by rw [Array.getElem?_setIfInBounds_self, if_pos (by rw [HYs.out]; exact hj)]⟩
            · rw [Array.getElem?_setIfInBounds_ne e]; exact HYc.out j hj
          · by_cases e : k = j
            · subst e; rw [Array.getElem?_setIfInBounds_self, if_pos (by rw [HYs.out]; exact hlt), hy]
            · rw [Array.getElem?_setIfInBounds_ne e]; exact HYd.out j (by omega)
        case measure => simp [intOf]; omega
      · refine ⟨rfl, .inr ⟨?_, ⟨_, rfl⟩, KU.out.local K2.out hSz.out, ?_⟩⟩
        · rw [HDE.out, if_neg (by have := N3.out; rw [List.length_drop] at this; omega)]
        · exact HO2.out P t cs hPB hSB.out.symm PU.out
    · have hk8 : ¬ (k : Int) < n := by omega
      obtain rfl : k = n := by omega
      have PW := Lib.hid (hO P t cs hPB hSB.out.symm PU.out)
      have pc : wr.cell? ⟨P, o, none⟩ = some (.slice A0 n0 c0) := (PW.out.cell o).trans HO.out
      have pf : wr.frozen? ⟨P, o, none⟩ = false := PW.out.free o
      have eY : Y = (Im.u8s (r1.take k)).toArray := by
        apply Array.ext_getElem?
        intro j
        by_cases hj : j < k
        · rw [hYd j hj, List.getElem?_toArray, Im.u8s_at (by rw [List.length_take]; omega)]
          congr 2
          simp [List.getD, List.getElem?_eq_getElem (show j < r1.length by omega)]
        · rw [Array.getElem?_eq_none (by omega), Array.getElem?_eq_none (by rw [List.size_toArray, Im.u8s_len, List.length_take]; omega)]
      rw [eY] at hB
      have hlk : (r1.take k).length = k := by rw [List.length_take]; omega
      have HL := Lib.hid hlk
      have HI := Lib.hid hI
      have HK := Lib.hid hK
      have HBX := Lib.hid hB
      have HO2 := Lib.hid hO
      clear hI hK hB hYs hYc hYd hO eY hlk
      go_wp2
      go_end0
      refine .inl ⟨r1.take k, r1.drop k, S, by rw [HDE.out, if_pos hkr], rfl, Y1.out.2.2.2.take k, Y1.out.2.2.2.drop k, by rw [HL.out]; omega, HI.out.off' (p := ⟨P, o, none⟩) PW.out h3 hPB HB.out _, ?_, hSz.out, ?_, HBX.out.far hSB.out _, fun g T G h1 h2 h => ?_⟩
      · exact (KU.out.local HK.out hSz.out).put HB.out o _
      · rw [HL.out]; exact PW.out.put o _
      · have h5 := OU.out g T G h1 h
        exact (HO2.out g T G h1 h5.2 h5.1).far (p := ⟨P, o, none⟩) h2 _
end Go.Proofs.Ytgmlbimgcifenaa
namespace Go.Proofs.Ytgmlbimgcifenaa
open Go.RowKit Go.Shelf
set_option linter.unusedVariables false
set_option linter.unusedSimpArgs false

def cutIn (cs : Array Value) (o : Nat) (l : List Value) : Array Value := (cs.toList.take o ++ l ++ cs.toList.drop (o + l.length)).toArray
theorem cutIn_cons (cs : Array Value) (o : Nat) (v : Value) (l : List Value) (h : o + (l.length + 1) ≤ cs.size) : cutIn (cs.setIfInBounds o v) (o + 1) l = cutIn cs o (v :: l) := by
  unfold cutIn
  congr 1
  rw [Array.toList_setIfInBounds, List.length_cons]
  have ho : o < cs.toList.length := by rw [Array.length_toList]; omega
  rw [List.take_set, List.drop_set, if_pos (by omega), List.append_assoc, List.append_assoc]
  rw [show o + 1 + l.length = o + (l.length + 1) by omega]
  rw [List.take_add_one, List.getElem?_eq_getElem ho, Option.toList_some, List.set_append_right _ _ (by rw [List.length_take]; omega)]
  rw [List.length_take, Nat.min_eq_left (by omega), Nat.sub_self]
  simp
theorem setCells_cut (g : Nat) (t : TypeId) : ∀ (l : List Value) (o : Nat) (cs : Array Value) (w : World), w.heap[g]? = some (.cells cs t (0, 0)) → o + l.length ≤ cs.size → w.setCells g o l = w.setRow g (cutIn cs o l)
  | [], o, cs, w, hg, hl => by
    have e : cutIn cs o [] = cs := by unfold cutIn; simp
    rw [e]
    show w = _
    have hv : w.heap[g]'(Array.getElem?_eq_some_iff.1 hg).1 = .cells cs t (0, 0) := (Array.getElem?_eq_some_iff.1 hg).2
    unfold World.setRow
    cases w with
    | mk heap tape drawn os output =>
      congr 1
      apply Array.ext
      · simp
      · intro k h1 h2
        simp only [Array.getElem_modify]
        split
        · rename_i hk; subst hk; simp at hv; simp [hv]
        · rfl
  | v :: l, o, cs, w, hg, hl => by
    rw [List.length_cons] at hl
    rw [World.setCells, setCell_eq_setRow w g o cs t (0, 0) v hg, setCells_cut g t l (o + 1) _ _ (setRow_heap w g cs _ t _ hg) (by rw [Array.size_setIfInBounds]; omega), setRow_setRow, cutIn_cons cs o v l hl]


theorem cutIn_at (cs : Array Value) (o : Nat) (l : List Value) (h : o + l.length ≤ cs.size) : Im.Patch cs o l (cutIn cs o l) := fun j => by
  unfold cutIn
  rw [List.getElem?_toArray]
  have ht : (cs.toList.take o).length = o := by rw [List.length_take, Array.length_toList]; omega
  by_cases h1 : o ≤ j ∧ j < o + l.length
  · rw [if_pos h1, List.append_assoc, List.getElem?_append_right (by omega), ht, List.getElem?_append_left (by omega)]
  · rw [if_neg h1]
    by_cases h2 : j < o
    · rw [List.append_assoc, List.getElem?_append_left (by omega), List.getElem?_take, if_pos h2]; simp
    · rw [List.getElem?_append_right (by rw [List.length_append, ht]; omega), List.length_append, ht, List.getElem?_drop, show o + l.length + (j - (o + l.length)) = j by omega]; simp
theorem cutIn_size (cs : Array Value) (o : Nat) (l : List Value) (h : o + l.length ≤ cs.size) : (cutIn cs o l).size = cs.size := by
  unfold cutIn
  simp only [List.size_toArray, List.length_append, List.length_take, List.length_drop, Array.length_toList]
  omega
theorem Box.there2 {w : World} {g : Nat} {t : TypeId} {cs : Array Value} (h : Box w g t cs) (f n : Nat) (hf : f + n ≤ cs.size) : w.there g f n := fun j hj => ⟨by rw [h.cell, Array.getElem?_eq_getElem (by omega)]; rfl, h.free _⟩
section
variable {P : Program} {ops : Array Oper} {rest : List Oper} {o : Oper} {a : Act} {w : World} {Q : Exit → Act → World → Prop}
/-- A struct is stored into a part of a block. -/
def StorePart (P : Program) (ops : Array Oper) (Q : Exit → Act → World → Prop) (rest : List Oper) (dst : Option Tmp) (p v : Value) (t : TypeId) (size : Nat) (a : Act) (w : World) : Prop :=
  ∃ (B f : Nat) (cs old : Array Value), p = .pointer (some ⟨B, f, none⟩) ∧ v = .agg cs ∧ Box w B t old ∧ f + size ≤ old.size ∧ cs.size = size ∧ cs.all (·.oneCell') = true ∧ wpList P ops Q rest (a.put dst undef) (w.setRow B (cutIn old f cs.toList))
theorem StorePart.mk {dst : Option Tmp} {p v : Value} {t : TypeId} {size : Nat} {B f : Nat} {cs old : Array Value} (hp : p = .pointer (some ⟨B, f, none⟩)) (hv : v = .agg cs) (hB : Box w B t old) (hf : f + size ≤ old.size) (hs : cs.size = size) (h1 : cs.all (·.oneCell') = true)
    (h : wpList P ops Q rest (a.put dst undef) (w.setRow B (cutIn old f cs.toList))) : StorePart P ops Q rest dst p v t size a w := ⟨B, f, cs, old, hp, hv, hB, hf, hs, h1, h⟩
theorem part_gate {t ty : TypeId} {size : Nat} {x y : Operand} (hgd : o.guard = none) (ho : o.op = .store ty x y) (hi : (P.info? ty).map (·.size) = some size) (h : StorePart P ops Q rest o.dst (a.eval x) (a.eval y) t size a w) : wpList P ops Q (o :: rest) a w := by
  obtain ⟨B, f, cs, old, hx, hy, hB, hf, hs, h1, h⟩ := h
  refine wpList_store_mid hgd ty x y ho B f cs hx hy (hB.there2 f _ (by omega)) (by rw [hi, hs]) h1 ?_
  rw [setCells_cut B t _ f old w hB.is (by rw [Array.length_toList]; omega)]
  exact h
end
theorem own_row {w : World} {base m c : Nat} {A : Option Addr} {bs : List Int} (h : w.ownsRow base 5 1 (.slice A m c) m (Im.u8s bs)) (hm : m ≠ 0) : ∃ g cur, A = some ⟨g, 0, none⟩ ∧ base ≤ g ∧ m ≤ c ∧ Box w g 5 cur ∧ ∀ (j : Nat) (x : Int), bs[j]? = some x → cur[j]? = some (Value.int .u8 x) := by
  obtain ⟨hl, ⟨_, h0⟩ | ⟨g, cap, cur, hv, hbg, hg, hnc, _, _, htake⟩⟩ := h
  · exact absurd h0 hm
  · injection hv with hA _ hc
    subst hc
    refine ⟨g, cur, hA, hbg, hnc, ⟨hg⟩, fun j x hj => ?_⟩
    have hlt : j < bs.length := (List.getElem?_eq_some_iff.1 hj).1
    have h1 : (Im.u8s bs)[j]? = some (Value.int .u8 x) := by unfold Im.u8s; rw [List.getElem?_map, hj]; rfl
    rw [← htake, List.getElem?_take] at h1
    split at h1
    · simpa using h1
    · cases h1
theorem Box.row_lies {w : World} {g m : Nat} {cur : Array Value} {bs : List Int} (h : Box w g 5 cur) (hm : bs.length = m) (hc : ∀ (j : Nat) (x : Int), bs[j]? = some x → cur[j]? = some (Value.int .u8 x)) : Lies w w.heap.size 1 (some ⟨g, 0, none⟩) m (Im.u8s bs) := by
  refine ⟨by rw [Im.u8s_len]; omega, fun _ => ⟨_, rfl, h.lt⟩, fun ad e h0 j u hu => ?_⟩
  injection e with e
  subst e
  have hadd : (⟨g, 0, none⟩ : Addr).add j = ⟨g, j, none⟩ := by unfold Addr.add; split <;> simp_all
  unfold Im.u8s at hu
  rw [List.getElem?_map] at hu
  cases hj : bs[j]? with
  | none => rw [hj] at hu; cases hu
  | some x =>
    rw [hj] at hu
    rw [hadd, h.cell j, hc j x hj]
    exact hu
theorem Kb.rowB {B : Nat} {w w' : World} (h : Kb B w w') (cs' : Array Value) : Kb B w (w'.setRow B cs') := fun g t cs hg hne h1 h2 => (h g t cs hg hne h1 h2).row_far hne cs'
theorem addr_cell (S o j : Nat) : (⟨S, o, none⟩ : Addr).add j = ⟨S, o + j, none⟩ := by unfold Addr.add; split <;> simp_all
namespace En
end En
theorem e00_ok : En.Ok ⟨0, [], En.in0⟩ := ⟨by decide, trivial, fun i _ => ⟨(by decide : (-127 : Int) ≤ 0), (by decide : (-127 : Int) ≤ 0)⟩⟩
theorem e00_put : En.put ⟨0, [], En.in0⟩ = [0, 0, 0, 0, 0, 0] := by decide +kernel

set_option maxRecDepth 100000 in
set_option maxHeartbeats 4000000 in
theorem wentry_w (e : En.E) (n : Nat) (A : Option Addr) (c P o : Nat) (Y : Array Value) (bs : List Int) (b Bb Bp : Nat) (w : World) (hn : n = e.evs.length) (hok : En.Ok e) (hty : En.Ty e) (hbB : b ≤ Bb) (hbP : b ≤ P) (hbw : b ≤ w.heap.size) (h : Wr b Bb Bp bs w) (hl : bs.length + 2 + (En.put e).length ≤ 65536) (hP : Box w P 53 Y) (hsz : o + 26 ≤ Y.size)
    (hc : ∀ j v, (En.cells e (.slice A n c)).toList[j]? = some v → Y[o + j]? = some v) (hL : Lies w b 4 A n (En.evCells e.evs)) :
    Calls Try.prog 81 #[.func (.func 54) #[] #[.pointer (some ⟨Bp, 0, none⟩)], .pointer (some ⟨P, o, none⟩)] w fun r w' => r = .returned (.tuple #[]) ∧ Wr b Bb Bp (bs ++ (Im.bytesOf 2 (En.put e).length ++ En.put e)) w' ∧ Below b w w' ∧ Kb P w w' ∧ VarK Bb P w w' ∧ ∃ Y', Box w' P 53 Y' ∧ Y'.size = Y.size ∧ ∀ j, (j < o ∨ o + 26 ≤ j) → Y'[j]? = Y[j]? := by
  obtain ⟨e', hg, hlike⟩ := En.get_put hok hty
  have c1 := Lib.hid (enput_yes e A n c w hok hty.ins hn (hL.wider hbw))
  have hcell : ∀ j v, (En.cells e (.slice A n c)).toList[j]? = some v → w.cell? ((⟨P, o, none⟩ : Addr).add j) = some v := fun j v hv => by rw [addr_cell, hP.cell]; exact hc j v hv
  have hsl : (En.cells e (.slice A n c)).toList.length = 26 := by rw [Array.length_toList, En.cells_size]
  have ple := En.put_le hok.count
  have HP := Lib.hid hP
  have HW := Lib.hid h
  have PB := Lib.hid (En.put_bytes e)
  have HBW := Lib.hid hbw
  have HLI := Lib.hid hlike
  have HG := Lib.hid hg
  have p6 : 6 ≤ (En.put e).length := by unfold En.put; simp only [List.length_append, Im.bytesOf_len]; omega
  obtain ⟨m, hm⟩ : ∃ m, m = (En.put e).length := ⟨_, rfl⟩
  rw [← hm] at c1 ple p6 hl ⊢
  have HM := Lib.hid hm.symm
  have ltP := hP.lt
  have ltB := h.var_lt
  clear hP h hlike hg hm hL hc hn
  go_enter Try.func81, Try.ntmps81
  go_upto_region 1 with (first | ((with_reducible refine load_at_gate rfl rfl Try.underlying53 rfl en_info ?_); apply LoadAt.mk rfl hcell hsl; rw [Array.toArray_toList]) | (go_at_call 88; ((with_reducible refine (c1.out).mono ?_); rintro r w1 ⟨A1, k1, rfl, hk1, hli, how, hb⟩; have O1 := Lib.hid how; have B1 := Lib.hid hb; have k6 : Hid (m ≤ k1) := Lib.hid hk1; clear hli how hb hk1 c1)))
  obtain ⟨g, cur, hA, hbg, hmc, hgB, hcur⟩ := own_row O1.out (by omega)
  have sz1 := B1.out.size
  have V2 := Lib.hid (Box.made w1 27 #[.slice A1 m k1])
  have v2 := V2.out.cell 0
  have W2 := Lib.hid ((HW.out.call B1.out).alloc (.cells #[.slice A1 m k1] 27))
  have P2 := Lib.hid ((HP.out.below B1.out ltP).alloc (.cells #[.slice A1 m k1] 27))
  have F2 := Lib.hid (((HW.out.far_new hbg).call B1.out ltB).call (one_below w1 (.cells #[.slice A1 m k1] 27)) (by omega))
  have c2 := Lib.hid (listby_w (En.put e) m A1 k1 2 2 rfl w1.heap.size 0 27 #[.slice A1 m k1] bs b Bb Bp (w1.alloc (.cells #[.slice A1 m k1] 27)) HM.out (by omega) (by decide) hbB (by omega) (by simp; omega) W2.out (by rw [HM.out]; omega) V2.out (by omega) PB.out rfl (fun X _ hF => by rw [hA]; exact (hF g cur (hgB.alloc _) F2.out).1.row_lies HM.out hcur) (by decide) (by decide))
  have c3 := fun (X : World) S (hS : Box X S 5 (Im.u8s (En.put e)).toArray) => Lib.hid (enget_any (En.put e) (some ⟨S, 0, none⟩) m m X HM.out.symm (Nat.le_refl _) PB.out (Lies.boxed hS (by rw [Im.u8s_len, HM.out]; omega)))
  have K1 := Lib.hid (((Kb.refl (B := P) w).call B1.out).call (one_below w1 (.cells #[.slice A1 m k1] 27)))
  have VK1 := Lib.hid (((VarK.refl (Bb := Bb) (P := P) w).call B1.out).call (one_below w1 (.cells #[.slice A1 m k1] 27)))
  have D1 := Lib.hid ((B1.out.mono hbw).alloc (by omega) (.cells #[.slice A1 m k1] 27))
  clear hgB hcur hA hbg hmc
  go_upto_region 3 with (first | (go_at_call 83; ((with_reducible refine (c2.out).mono ?_); rintro r w3 ⟨rfl, hI, hB, hK, hVK, S, hS, hV, hE⟩; have VK3 := Lib.hid (VK1.out.fresh hVK sz1); have I3 := Lib.hid hI; have B3 := Lib.hid (D1.out.trans hB); have K3 := Lib.hid (K1.out.fresh hK sz1); have P3 := Lib.hid (hK P _ _ P2.out (by omega) (by decide) (by decide)); have E3 := Lib.hid hE; have v3 := hV.cell 0; clear hI hB hK hVK hE c2 v2)) | (go_at_call 89; ((with_reducible refine ((c3 w3 S E3.out).out).mono ?_); rintro r w4 (⟨e2, S2, hg2, rfl, hE2, hB4⟩ | ⟨hg2, rfl, hB4⟩); (all_goals first | (have G4 := Lib.hid hg2; have B4 := Lib.hid hB4; clear hE2 hB4 hg2) | (exfalso; have := HG.out; rw [this] at hg2; cases hg2)))) | (with_reducible refine alloc_en rfl rfl ?_) | ((with_reducible refine en_store_new rfl rfl rfl rfl rfl rfl ?_)))
  have V5 := Lib.hid (Box.made w4 53 (En.cells e2 (.slice (some ⟨S2, 0, none⟩) e2.evs.length e2.evs.length)))
  have P5 := Lib.hid ((P3.out.below B4.out P3.out.lt).alloc (.cells (En.cells e2 (.slice (some ⟨S2, 0, none⟩) e2.evs.length e2.evs.length)) 53))
  have I5 := Lib.hid ((I3.out.call B4.out).alloc (.cells (En.cells e2 (.slice (some ⟨S2, 0, none⟩) e2.evs.length e2.evs.length)) 53))
  have B5 := Lib.hid ((B3.out.trans (B4.out.mono (Nat.le_trans hbw B3.out.size))).alloc (Nat.le_trans hbw (Nat.le_trans B3.out.size B4.out.size)) (.cells (En.cells e2 (.slice (some ⟨S2, 0, none⟩) e2.evs.length e2.evs.length)) 53))
  have K5 := Lib.hid ((K3.out.call B4.out).call (one_below w4 (.cells (En.cells e2 (.slice (some ⟨S2, 0, none⟩) e2.evs.length e2.evs.length)) 53)))
  have VK5 := Lib.hid ((VK3.out.call B4.out).call (one_below w4 (.cells (En.cells e2 (.slice (some ⟨S2, 0, none⟩) e2.evs.length e2.evs.length)) 53)))
  clear c3 v3 hV
  go_wp2_with (first | (go_at_call 30; ((with_reducible refine (need_yes _ _).mono ?_); rintro r wn ⟨rfl, rfl⟩)) | ((with_reducible refine en_load rfl rfl ?_); apply LoadEn.mk rfl; (focus (with_reducible exact V5.out)); dsimp only) | ((with_reducible refine part_gate (t := 53) rfl rfl en_info ?_); (go_loud (apply StorePart.mk rfl rfl P5.out hsz (En.cells_size _ _) (En.cells_one _ _ rfl)))))
  go_end0
  have hlen : o + (En.cells e2 (.slice (some ⟨S2, 0, none⟩) e2.evs.length e2.evs.length)).toList.length ≤ Y.size := by rw [Array.length_toList, En.cells_size]; exact hsz
  refine ⟨rfl, I5.out.offRow P5.out (by decide) (by decide) (by decide) _, Below.setRow' B5.out hbP _, K5.out.rowB _, VK5.out.rowB _, _, P5.out.row _, cutIn_size _ _ _ hlen, fun j hj => ?_⟩
  have hp := cutIn_at Y o (En.cells e2 (.slice (some ⟨S2, 0, none⟩) e2.evs.length e2.evs.length)).toList hlen
  rw [hp j, if_neg (by rw [Array.length_toList, En.cells_size]; omega)]

/-- An entry of a message's list, out of bytes. -/
def decEntryW (bs : List Int) : Option (En.E × List Int) := (Im.getB 2 bs).bind fun q => (En.get q.1).bind fun e => some (e, q.2)
/-- An entry lies in these cells, its events in a row of their own. -/
def GoodEn (w : World) (e : En.E) (C : List Value) : Prop := ∃ S, C = (En.cells e (.slice (some ⟨S, 0, none⟩) e.evs.length e.evs.length)).toList ∧ Box w S 59 (En.evCells e.evs).toArray

def GotEnW (b Bb Bp P o : Nat) (Y : Array Value) (bs : List Int) (w : World) (r : Ending) (w' : World) : Prop :=
      (∃ e rest C, decEntryW bs = some (e, rest) ∧ r = .returned (.tuple #[]) ∧ Im.IsBytes rest ∧ Rd b Bb Bp rest w' ∧ Rk b Bb P w w' ∧ C.length = 26 ∧ GoodEn w' e C ∧ ∃ Y', Box w' P 53 Y' ∧ Im.Patch Y o C Y') ∨
      (decEntryW bs = none ∧ Pan r ∧ Rk b Bb P w w')
set_option maxRecDepth 100000 in
set_option maxHeartbeats 4000000 in
theorem wentry_r (P o : Nat) (Y : Array Value) (bs : List Int) (b Bb Bp : Nat) (w : World) (hBy : Im.IsBytes bs) (hbB : b ≤ Bb) (hbP : b ≤ P) (hbw : b ≤ w.heap.size) (h : Rd b Bb Bp bs w) (hP : Box w P 53 Y) (hsz : o + 26 ≤ Y.size)
    (hc : ∀ j v, En.zeroC.toList[j]? = some v → Y[o + j]? = some v) :
    Calls Try.prog 81 #[.func (.func 60) #[] #[.pointer (some ⟨Bp, 0, none⟩)], .pointer (some ⟨P, o, none⟩)] w (GotEnW b Bb Bp P o Y bs w) := by
  have c1 := Lib.hid (enput_yes ⟨0, [], En.in0⟩ none 0 0 w e00_ok (fun i _ => show Gm.tyIn ⟨0, 0, 0⟩ by unfold Gm.tyIn; decide) rfl Lies.empty)
  rw [e00_put, show En.cells ⟨0, [], En.in0⟩ (.slice none 0 0) = En.zeroC from rfl] at c1
  have hcell : ∀ j v, En.zeroC.toList[j]? = some v → w.cell? ((⟨P, o, none⟩ : Addr).add j) = some v := fun j v hv => by rw [addr_cell, hP.cell]; exact hc j v hv
  have HP := Lib.hid hP
  have HW := Lib.hid h
  have HY := Lib.hid hBy
  have ltP := hP.lt
  have ltB : Bb < w.heap.size := by obtain ⟨A, n, c, hv⟩ := h.isvar; exact hv.lt
  clear hP h hc hBy
  go_enter Try.func81, Try.ntmps81
  go_upto_region 1 with (first | ((with_reducible refine load_at_gate rfl rfl Try.underlying53 rfl en_info ?_); apply LoadAt.mk rfl hcell rfl; rw [Array.toArray_toList]) | (go_at_call 88; ((with_reducible refine (c1.out).mono ?_); rintro r w1 ⟨A1, k1, rfl, hk1, hli, how, hb⟩; have O1 := Lib.hid how; have B1 := Lib.hid hb; have k6 : Hid (6 ≤ k1) := Lib.hid hk1; clear hli how hb hk1 c1)))
  obtain ⟨g, cur, hA, hbg, hmc, hgB, hcur⟩ := own_row O1.out (by decide)
  have sz1 := B1.out.size
  have V2 := Lib.hid (Box.made w1 27 #[.slice A1 6 k1])
  have v2 := V2.out.cell 0
  have W2 := Lib.hid ((HW.out.call B1.out hbw).call (one_below w1 (.cells #[.slice A1 6 k1] 27)) (by omega))
  have P2 := Lib.hid ((HP.out.below B1.out ltP).alloc (.cells #[.slice A1 6 k1] 27))
  have c2 := Lib.hid (listby_r [0, 0, 0, 0, 0, 0] A1 6 k1 2 2 rfl w1.heap.size 0 27 #[.slice A1 6 k1] bs b Bb Bp (w1.alloc (.cells #[.slice A1 6 k1] 27)) HY.out (by decide) hbB (by omega) (by simp; omega) W2.out V2.out (by omega) (by decide) rfl (fun X hF => by rw [hA]; exact (hF g _ cur (by omega) (hgB.alloc _)).row_lies rfl hcur) (by decide) (by decide))
  have K1 := Lib.hid (show Rk b Bb P w (w1.alloc (.cells #[.slice A1 6 k1] 27)) from ⟨(B1.out.mono hbw).alloc (by omega) _, ((Kb.refl (B := P) w).call B1.out).call (one_below w1 _)⟩)
  have hD := Lib.hid (show decEntryW bs = (Im.getB 2 bs).bind fun q => (En.get q.1).bind fun e => some (e, q.2) from rfl)
  clear hcur hA hbg hmc
  go_upto_region 2 with (go_at_call 83; ((with_reducible refine (c2.out).mono ?_); rintro r w3 (⟨l, rest, S, hr, rfl, hyl, hyr, hl6, hI, hK, hS, hV, hE, hO⟩ | ⟨hr, ⟨ss, rfl⟩, hK, hV⟩); (all_goals first | (have R3 := Lib.hid hr; have YL := Lib.hid hyl; have YR := Lib.hid hyr; have I3 := Lib.hid hI; have K3 := Lib.hid (K1.out.local hK sz1); have P3 := Lib.hid (hK.kb P _ _ P2.out (by omega) (by decide) (by decide)); have E3 := Lib.hid hE; have v3 := hV.cell 0; clear hr hyl hyr hI hK hV hE hO c2 v2) | (have N3 := Lib.hid hr; have K3 := Lib.hid (K1.out.local hK sz1); clear hr hK hV c2 v2))))
  rotate_left
  · exact ⟨rfl, .inr ⟨by rw [hD.out, N3.out]; rfl, ⟨_, rfl⟩, K3.out⟩⟩
  have c3 := Lib.hid (enget_any l (some ⟨S, 0, none⟩) l.length l.length w3 rfl (Nat.le_refl _) YL.out (Lies.boxed E3.out (by rw [Im.u8s_len]; omega)))
  have lt3 := P3.out.lt
  have bw3 := Nat.le_trans hbw K3.out.below.size
  go_upto_region 3 with (first | (go_at_call 89; ((with_reducible refine (c3.out).mono ?_); rintro r w4 (⟨e2, S2, hg2, rfl, hE2, hB4⟩ | ⟨hg2, rfl, hB4⟩); (all_goals first | (have G4 := Lib.hid hg2; have B4 := Lib.hid hB4; have E4 := Lib.hid hE2; clear hE2 hB4 hg2 c3) | (have G4 := Lib.hid hg2; have B4 := Lib.hid hB4; clear hB4 hg2 c3)))) | (with_reducible refine alloc_en rfl rfl ?_) | ((with_reducible refine en_store_new rfl rfl rfl rfl rfl rfl ?_)) | (refine wpList_store_new rfl rfl rfl rfl rfl rfl en_info26 rfl en_zero_one ?_))
  · have V5 := Lib.hid (Box.made w4 53 (En.cells e2 (.slice (some ⟨S2, 0, none⟩) e2.evs.length e2.evs.length)))
    have P5 := Lib.hid ((P3.out.below B4.out lt3).alloc (.cells (En.cells e2 (.slice (some ⟨S2, 0, none⟩) e2.evs.length e2.evs.length)) 53))
    have I5 := Lib.hid ((I3.out.call B4.out bw3).call (one_below w4 (.cells (En.cells e2 (.slice (some ⟨S2, 0, none⟩) e2.evs.length e2.evs.length)) 53)) (Nat.le_trans bw3 B4.out.size))
    have B5 := Lib.hid ((K3.out.below.trans (B4.out.mono bw3)).alloc (Nat.le_trans bw3 B4.out.size) (.cells (En.cells e2 (.slice (some ⟨S2, 0, none⟩) e2.evs.length e2.evs.length)) 53))
    have K5 := Lib.hid ((K3.out.kb.call B4.out).call (one_below w4 (.cells (En.cells e2 (.slice (some ⟨S2, 0, none⟩) e2.evs.length e2.evs.length)) 53)))
    have E5 := Lib.hid (E4.out.alloc (.cells (En.cells e2 (.slice (some ⟨S2, 0, none⟩) e2.evs.length e2.evs.length)) 53))
    clear v3
    go_wp2_with (first | (go_at_call 30; ((with_reducible refine (need_yes _ _).mono ?_); rintro r wn ⟨rfl, rfl⟩)) | ((with_reducible refine en_load rfl rfl ?_); apply LoadEn.mk rfl; (focus (with_reducible exact V5.out)); dsimp only) | ((with_reducible refine part_gate (t := 53) rfl rfl en_info ?_); apply StorePart.mk rfl rfl P5.out hsz (En.cells_size _ _) (En.cells_one _ _ rfl)))
    go_end0
    have hlen : o + (En.cells e2 (.slice (some ⟨S2, 0, none⟩) e2.evs.length e2.evs.length)).toList.length ≤ Y.size := by rw [Array.length_toList, En.cells_size]; exact hsz
    refine .inl ⟨e2, rest, _, by rw [hD.out, R3.out, Option.bind_some, G4.out, Option.bind_some], rfl, YR.out, I5.out.offRow P5.out (by decide) (by decide) hbP _, ⟨Below.setRow' B5.out hbP _, K5.out.rowB _⟩, by rw [Array.length_toList, En.cells_size], ⟨S2, rfl, E5.out.row_far (Box.apart E5.out P5.out (by decide)) _⟩, _, P5.out.row _, cutIn_at _ _ _ hlen⟩
  · go_wp2_with (go_at_call 30; ((with_reducible refine (need_no _ _).mono ?_); rintro r wn ⟨rfl, rfl⟩))
    exact ⟨rfl, .inr ⟨by rw [hD.out, R3.out, Option.bind_some, G4.out]; rfl, ⟨_, rfl⟩, ⟨(K3.out.below.trans (B4.out.mono bw3)).alloc (Nat.le_trans bw3 B4.out.size) _, (K3.out.kb.call B4.out).call (one_below w4 _)⟩⟩⟩
end Go.Proofs.Ytgmlbimgcifenaa
namespace Go.Proofs.Ytgmlbimgcifenaa
open Go.RowKit Go.Shelf
set_option linter.unusedVariables false
set_option linter.unusedSimpArgs false

theorem zen_infoZ : (Try.prog.info? 53).map (fun i => (i.zero, i.size, i.bytes)) = some (some (Value.agg En.zeroC), 26, 56) := by kernel_rfl
theorem zen_sz : (Try.prog.info? 53).map (·.size) = some 26 := by kernel_rfl

set_option maxRecDepth 100000 in
set_option maxHeartbeats 4000000 in
theorem listzen_w (C : List Value) (ys : List (List Int)) (n : Nat) (A : Option Addr) (c size : Nat) (z : Int) (hz : z = size) (P o : Nat) (t : TypeId) (cs : Array Value) (bs : List Int) (b Bb Bp : Nat) (w : World) (hn : ys.length = n) (hn16 : n ≤ 4096) (hs : size ≤ 8) (hbB : b ≤ Bb) (hbP : b ≤ P) (hbw : b ≤ w.heap.size) (h : Wr b Bb Bp bs w) (hl : bs.length + size + ys.flatten.length ≤ 65536) (hP : Box w P t cs)
    (ho : cs[o]? = some (.slice A n c)) (hL : Lies w b 26 A n C) (hone : ∀ u ∈ C, u.oneCell' = true) (h1 : t ≠ 27) (h2 : t ≠ 5) (h3 : t ≠ 68) (hc : EachW 81 53 26 C ys b Bb Bp w) :
    Calls Try.prog 80 #[.func (.func 54) #[] #[.pointer (some ⟨Bp, 0, none⟩)], .int .i64 z, .pointer (some ⟨P, o, none⟩), .func (.func 81) #[] #[]] w fun e w' => e = .returned (.tuple #[]) ∧ Wr b Bb Bp (bs ++ (Im.bytesOf size n ++ ys.flatten)) w' ∧ Below b w w' ∧ Kb P w w' ∧ VarK Bb P w w' ∧ ∃ S, Box w' P t (cs.setIfInBounds o (.slice (some ⟨S, 0, none⟩) n n)) := by
  subst hz
  have k0 := hP.cell o
  rw [ho] at k0
  have ltP := hP.lt
  have hwn : IntKind.u64.wrap (n : Int) = n := by rw [IntKind.wrap_u64]; omega
  have HL := Lib.hid (Box.made w 3 #[.int .i64 n])
  have HPA := Lib.hid (hP.alloc (.cells #[.int .i64 n] 3))
  have HA := Lib.hid (h.alloc (.cells #[.int .i64 n] 3))
  have WA := Lib.hid ((Wrote.refl hbB w).alloc (.cells #[.int .i64 n] 3))
  have KA := Lib.hid ((Kb.refl (B := P) w).call (one_below w (.cells #[.int .i64 n] 3)))
  have VA := Lib.hid ((VarK.refl (Bb := Bb) (P := P) w).call (one_below w (.cells #[.int .i64 n] 3)))
  have c1 := Lib.hid (layint_w size size rfl n w.heap.size 0 3 #[.int .i64 n] bs b Bb Bp _ hs (by omega) hbB HA.out (by omega) HL.out rfl (by decide) (by decide) (by decide))
  rw [hwn] at c1
  have hvar := Lib.hid HA.out.isvar
  have HO := Lib.hid ho
  have HLs := Lib.hid hL
  obtain ⟨i0, hi0, hz0, hz1, hz2⟩ := info_parts zen_infoZ
  obtain ⟨Z, hZ⟩ : ∃ Z, Z = madeCells (Value.agg En.zeroC).cells (n * 26) := ⟨_, rfl⟩
  have hZs : Z.size = n * 26 := by rw [hZ, size_madeCells]
  have hCs : C.length = n * 26 := hL.len
  have hmk : ∀ W : World, (Instr.makeSlice 26 (.int .i64 (n : Int)) (.int .i64 (n : Int))).run Try.prog W = .ok (.slice (some ⟨W.heap.size, 0, none⟩) n n) (W.alloc (.cells Z 53)) := fun W => by
    have := run_make (P := Try.prog) W 26 53 i0 _ Try.underlying26 hi0 hz0 .i64 .i64 n n (by omega) (Int.le_refl _) (by rw [hz2]; omega) (by omega)
    rw [this, hZ, hz1, Int.toNat_natCast]
  have hcp : ∀ W : World, Lies W W.heap.size 26 A n C → (Builtin.copy_ #[26, 26] 3 #[.slice (some ⟨W.heap.size, 0, none⟩) n n, .slice A n c]).run Try.prog (W.alloc (.cells Z 53)) = .ok (.int .i64 n) (W.alloc (.cells C.toArray 53)) := fun W hW => by
    cases A with
    | none =>
      have hn0 : n = 0 := by
        by_cases h0 : n = 0
        · exact h0
        · obtain ⟨ad, e, _⟩ := hW.start h0
          cases e
      have hl0 : C = [] := List.eq_nil_of_length_eq_zero (by omega)
      have hz : Z = #[] := Array.eq_empty_of_size_eq_zero (by omega)
      have := run_copy_nought (P := Try.prog) (W.alloc (.cells Z 53)) 26 26 3 53 ⟨W.heap.size, 0, none⟩ n n c Try.underlying26 (by rw [Option.isSome_map]; rw [hi0]; rfl)
      rw [hn0] at this ⊢
      rw [hl0]
      rw [hz] at this ⊢
      simpa [goInt] using this
    | some ad =>
      have hc : ∀ j v, C[j]? = some v → (W.alloc (.cells Z 53)).cell? (ad.add j) = some v := fun j v hv => by
        have hn0 : n ≠ 0 := fun e => by
          have := (List.getElem?_eq_some_iff.1 hv).1
          omega
        exact (hW.below (one_below W (.cells Z 53))).cell ad rfl hn0 j v hv
      have := run_copy_rows (P := Try.prog) (W.alloc (.cells Z 53)) 26 26 3 53 26 W.heap.size n n ad n c Z 53 C Try.underlying26 zen_sz (Box.made W _ _).is (by rw [hW.len]; simp) hc (by rw [hW.len, hZs]) hone
      rw [World.setRow_alloc_new] at this
      simpa [goInt] using this
  have NL := Lib.hid hn
  have HC := Lib.hid hc
  have HCS := Lib.hid hCs
  clear h hP ho hL hZ hn hc hCs
  go_enter Try.func80, Try.ntmps80
  go_upto_region 2 with (go_at_call 51; ((with_reducible refine (c1.out).mono ?_); rintro e w1 ⟨rfl, hI1, hK1⟩; have L1 := HL.out.wrote' hK1 hvar.out (by decide) (by decide); have l1 := L1.cell 0; have P1 := Lib.hid (HPA.out.wrote' hK1 hvar.out h1 h2); have I1 := Lib.hid hI1; have K1 := Lib.hid (WA.out.trans hK1); have B1 := Lib.hid (KA.out.wrote hK1 hvar.out); have V1 := Lib.hid (VA.out.wrote hK1); clear hI1 hK1 L1 k0))
  have lw1 := (HLs.out.below (K1.out.to hbw))
  have hcpw := hcp w1 (lw1.wider (Nat.le_trans hbw K1.out.size))
  have p58 : ∀ x, (w1.alloc x).cell? ⟨P, o, none⟩ = some (.slice A n c) := fun x => ((P1.out.alloc x).cell o).trans HO.out
  have sz1 : w.heap.size ≤ w1.heap.size := K1.out.size
  clear hcp lw1 HLs HL HPA HA WA KA VA c1
  go_upto_region 4 with fail
  obtain ⟨U, hU⟩ : ∃ U, U = w1.alloc (.cells C.toArray 53) := ⟨_, rfl⟩
  have PU : Box U P t cs := by rw [hU]; exact P1.out.alloc _
  have SU : Box U w1.heap.size 53 C.toArray := by rw [hU]; exact Box.made w1 _ _
  have IU : Wr b Bb Bp (bs ++ Im.bytesOf size n) U := by rw [hU]; exact I1.out.alloc _
  have BU : Below b w U := by rw [hU]; exact (K1.out.to hbw).alloc (Nat.le_trans hbw sz1) _
  have KU : Kb P w U := by rw [hU]; exact B1.out.call (one_below _ _)
  have VU : VarK Bb P w U := by rw [hU]; exact V1.out.call (one_below _ _)
  have hSP : w1.heap.size ≠ P := by have := P1.out.lt; omega
  have hbS : b ≤ w1.heap.size := Nat.le_trans hbw sz1
  have hSw : w.heap.size ≤ w1.heap.size := sz1
  rw [← hU]
  generalize w1.heap.size = S at *
  have IU := Lib.hid IU
  have PU := Lib.hid PU
  have SU := Lib.hid SU
  have BU := Lib.hid BU
  have KU := Lib.hid KU
  have VU := Lib.hid VU
  clear hU I1 K1 P1 B1 V1 p58 hcpw hmk l1 hvar sz1
  go_upto_region 5 with fail
  go_loopw [10, 27] (fun _ i wr => ∃ k : Nat, k ≤ n ∧ i = .int .i64 k ∧ Wr b Bb Bp (bs ++ Im.bytesOf size n ++ (ys.take k).flatten) wr ∧ Below b U wr ∧ Kb S U wr ∧ VarK Bb S U wr ∧ ∃ Y, Box wr S 53 Y ∧ Y.size = C.length ∧ ∀ j, k * 26 ≤ j → Y[j]? = C[j]?) (fun _ i _ => n - (intOf i).toNat)
  case atStart => exact ⟨0, by omega, rfl, by simpa using IU.out, Below.refl _ _, Kb.refl _, VarK.refl _, _, SU.out, by simp, fun j _ => by simp⟩
  case round =>
    obtain ⟨k, hk, rfl, hI, hB, hK, hVK, Y, hY, hYs, hYc⟩ := hrel
    by_cases hlt : k < n
    · have hk8 : (k : Int) < n := by omega
      have hkl : k < ys.length := by have := NL.out; omega
      have ht := Im.flat_take hkl
      have hle := Im.flat_le ys (k + 1)
      rw [ht, List.length_append] at hle
      have HT := Lib.hid ht
      have cc := Lib.hid (HC.out k S wr Y (bs ++ Im.bytesOf size n ++ (ys.take k).flatten) hkl (BU.out.trans hB) hbS hI (by rw [List.length_append, List.length_append, Im.bytesOf_len]; omega) hY (fun j hj => hYc _ (by omega)))
      have HB := Lib.hid hB
      have HK := Lib.hid hK
      have HVK := Lib.hid hVK
      have HYs := Lib.hid hYs
      have HYc := Lib.hid hYc
      clear ht hle hI hB hK hVK hYs hYc hY
      go_wp2_with (go_at_call 81; ((with_reducible refine (cc.out).mono ?_); rintro e w3 ⟨rfl, hI, hB, hK, hVK, Y', hY, hYs, hYc⟩; have V3 := Lib.hid (HVK.out.trans hVK); have I3 := Lib.hid hI; have B3 := Lib.hid (HB.out.trans hB); have K3 := Lib.hid (HK.out.trans hK); have Y3 := Lib.hid hY; have Z3 := Lib.hid (hYs.trans HYs.out); have C3 := Lib.hid hYc; clear hI hB hK hVK hY hYs hYc))
      go_roundw
      case rel => exact ⟨k + 1, by omega, by go_num, by rw [HT.out, ← List.append_assoc]; exact I3.out, B3.out, K3.out, V3.out, Y', Y3.out, Z3.out, fun j hj => by rw [C3.out j (by omega)]; exact HYc.out j (by omega)⟩
      case measure => simp [intOf]; omega
    · have hk8 : ¬ (k : Int) < n := by omega
      obtain rfl : k = n := by omega
      have ht : ys.take k = ys := List.take_of_length_le (by have := NL.out; omega)
      rw [ht] at hI
      have HI := Lib.hid hI
      have HK := Lib.hid hK
      have HB := Lib.hid hB
      have HVK := Lib.hid hVK
      have PW := Lib.hid (hK P t cs PU.out hSP.symm h1 h2)
      have pc : wr.cell? ⟨P, o, none⟩ = some (.slice A k c) := (PW.out.cell o).trans HO.out
      have pf : wr.frozen? ⟨P, o, none⟩ = false := PW.out.free o
      clear hI hK hB hVK hY hYs hYc
      go_wp2
      go_end0
      exact ⟨rfl, by rw [← List.append_assoc]; exact HI.out.off (p := ⟨P, o, none⟩) PW.out h3 h1 h2 _, (BU.out.trans HB.out).setCell hbP _, (KU.out.fresh HK.out hSw).put o _, (VU.out.fresh HVK.out hSw).put o _, S, PW.out.put o _⟩

set_option maxRecDepth 100000 in
set_option maxHeartbeats 4000000 in
theorem listzen_r {α : Type} (dec : List Int → Option (α × List Int)) (Good : World → α → List Value → Prop) (size : Nat) (z : Int) (hz : z = size) (P o : Nat) (t : TypeId) (cs : Array Value) (bs : List Int) (b Bb Bp : Nat) (w : World) (hBy : Im.IsBytes bs) (hs : 1 ≤ size ∧ size ≤ 2) (hbB : b ≤ Bb) (hbP : b ≤ P) (hbw : b ≤ w.heap.size) (h : Rd b Bb Bp bs w) (hP : Box w P t cs)
    (ho : cs[o]? = some (.slice none 0 0)) (h1 : t ≠ 27) (h2 : t ≠ 5) (h3 : t ≠ 68)
    (hG1 : ∀ X X' S Y v C, Box X S 53 Y → Kb S X X' → Good X v C → Good X' v C) (hG2 : ∀ X X' Y v C, Box X P t Y → Kb P X X' → Good X v C → Good X' v C)
    (hc : EachR 81 53 26 (Value.agg En.zeroC).cells.toList dec Good b Bb Bp w) :
    Calls Try.prog 80 #[.func (.func 60) #[] #[.pointer (some ⟨Bp, 0, none⟩)], .int .i64 z, .pointer (some ⟨P, o, none⟩), .func (.func 81) #[] #[]] w (GotL 53 26 (Im.decL size dec bs) Good b Bb Bp P o t cs w) := by
  subst hz
  have k0 := hP.cell o
  rw [ho] at k0
  have ltP := hP.lt
  have HPA := Lib.hid (hP.alloc (.cells #[.int .i64 0] 3))
  have HKA := Lib.hid (Rk.alloc (w := w) (Bb := Bb) (P := P) hbw (.cells #[.int .i64 0] 3))
  have c1 := Lib.hid (part_int size size rfl 0 w.heap.size 0 3 #[.int .i64 0] bs b Bb Bp _ (by omega) hBy hbB hbw (by simp <;> omega) (h.call (one_below w (.cells #[.int .i64 0] 3)) hbw) (Box.made w 3 #[.int .i64 0]) rfl (by decide) (by decide) (by decide))
  obtain ⟨i0, hi0, hz0, hz1, hz2⟩ := info_parts zen_infoZ
  have hmk : ∀ (n : Nat), n < 65536 → ∀ W : World, (Instr.makeSlice 26 (.int .i64 (n : Int)) (.int .i64 (n : Int))).run Try.prog W = .ok (.slice (some ⟨W.heap.size, 0, none⟩) n n) (W.alloc (.cells (madeCells (Value.agg En.zeroC).cells (n * 26)) 53)) := fun n hn W => by
    have := run_make (P := Try.prog) W 26 53 i0 _ Try.underlying26 hi0 hz0 .i64 .i64 n n (by omega) (Int.le_refl _) (by rw [hz2]; omega) (by omega)
    rw [this, hz1, Int.toNat_natCast]
  have hcp : ∀ (n : Nat) (Z : Array Value) (W : World), (Builtin.copy_ #[26, 26] 3 #[.slice (some ⟨W.heap.size, 0, none⟩) n n, .slice none 0 0]).run Try.prog (W.alloc (.cells Z 53)) = .ok (.int .i64 0) (W.alloc (.cells Z 53)) := fun n Z W => by
    have := run_copy_nought (P := Try.prog) (W.alloc (.cells Z 53)) 26 26 3 53 ⟨W.heap.size, 0, none⟩ n n 0 Try.underlying26 (by rw [Option.isSome_map]; rw [hi0]; rfl)
    simpa [goInt] using this
  have HO := Lib.hid ho
  have HB := Lib.hid hbP
  have HW := Lib.hid hbw
  have HY := Lib.hid hBy
  have HC := Lib.hid hc
  have G1 := Lib.hid hG1
  have G2 := Lib.hid hG2
  have HS := Lib.hid hs
  clear h hP ho hBy hc hG1 hG2 hs
  go_enter Try.func80, Try.ntmps80
  go_upto_region 2 with (go_at_call 51; ((with_reducible refine (c1.out).mono ?_); rintro r w1 (⟨m, r1, hr, rfl, hI, hK, hB1⟩ | ⟨hn, ⟨ss, rfl⟩, hK, cs', hB1, hs⟩); (all_goals first | (have R1 := Lib.hid hr; have Y1 := Lib.hid (Im.rdn_inv HY.out hr); have l1 := hB1.cell 0; have P1 := Lib.hid (hK.kb _ _ _ HPA.out (by omega) h1 h2); have I1 := Lib.hid hI; have K1 := Lib.hid (HKA.out.local hK (Nat.le_refl _)); clear hr hI hK hB1 c1 k0) | (have N1 := Lib.hid hn; have F1 := Lib.hid (HKA.out.local hK (Nat.le_refl _)); have Q1 := Lib.hid (hK.kb _ _ _ HPA.out (by omega) h1 h2); clear hn hK hB1 hs c1 k0))))
  rotate_left
  · refine ⟨rfl, .inr ⟨?_, ⟨_, rfl⟩, F1.out, Q1.out⟩⟩
    unfold Im.decL
    rw [N1.out, Option.bind_none]
  obtain ⟨n, hmn⟩ : ∃ n : Nat, m = n := ⟨m.toNat, by have := Y1.out.2.1; omega⟩
  subst hmn
  have hn256 : n < 65536 := by
    have h1 := Y1.out.2.2.1
    have h2 : (2 : Int) ^ (8 * size) ≤ 2 ^ 16 := by
      have := Nat.pow_le_pow_right (show 0 < 2 by decide) (show 8 * size ≤ 16 by have := HS.out; omega)
      exact_mod_cast this
    omega
  have HDE := Lib.hid (show Im.decL size dec bs = Im.decFrom dec [] n r1 by unfold Im.decL; rw [R1.out, Option.bind_some, Int.toNat_natCast, Im.decFrom_nil])
  simp only [List.getElem?_toArray, Array.setIfInBounds, List.size_toArray, List.length_cons, List.length_nil, Nat.zero_add, Nat.lt_add_one, dite_true, List.set_toArray, List.set_cons_zero, List.getElem?_cons_zero] at l1
  have hmkn := hmk n hn256
  obtain ⟨Z, hZ⟩ : ∃ Z, Z = madeCells (Value.agg En.zeroC).cells (n * 26) := ⟨_, rfl⟩
  rw [← hZ] at hmkn
  have HZ := Lib.hid (show ∀ j, Z[j]? = if j < 0 * 26 then ([] : List (List Value)).flatten[j]? else if j < n * 26 then (Value.agg En.zeroC).cells.toList[j % 26]? else none from by rw [hZ]; exact made_rows (Value.agg En.zeroC).cells n (by decide))
  have hcpw := hcp n Z w1
  have p58 : ∀ x, (w1.alloc x).cell? ⟨P, o, none⟩ = some (.slice none 0 0) := fun x => ((P1.out.alloc x).cell o).trans HO.out
  have s1 := Nat.le_trans HW.out K1.out.below.size
  have sz1 := K1.out.below.size
  clear hcp HPA HKA hmk hZ
  go_upto_region 4 with fail
  obtain ⟨U, hU⟩ : ∃ U, U = w1.alloc (.cells Z 53) := ⟨_, rfl⟩
  have PU := Lib.hid (show Box U P t cs by (rw [hU]; exact P1.out.alloc _))
  have SU := Lib.hid (show Box U w1.heap.size 53 Z by (rw [hU]; exact Box.made w1 _ _))
  have IU := Lib.hid (show Rd b Bb Bp r1 U by (rw [hU]; exact I1.out.call (one_below w1 _) s1))
  have KU := Lib.hid (show Rk b Bb P w U by (rw [hU]; exact K1.out.trans (Rk.alloc (w := w1) (Bb := Bb) (P := P) s1 _)))
  have hSB : Hid (w1.heap.size ≠ P) := Lib.hid (by have := P1.out.lt; omega)
  have hSw : Hid (b ≤ w1.heap.size) := Lib.hid s1
  have hSz : Hid (w.heap.size ≤ w1.heap.size) := Lib.hid sz1
  rw [← hU]
  generalize w1.heap.size = S at *
  clear hU I1 K1 P1 p58 hcpw hmkn l1 s1 sz1
  have hbU : b ≤ U.heap.size := Nat.le_trans HW.out KU.out.below.size
  go_upto_region 5 with fail
  go_loopw [10, 27] (fun _ i wr => ∃ (k : Nat) (l : List α) (Cs : List (List Value)) (bs' : List Int), k ≤ n ∧ i = .int .i64 k ∧ l.length = k ∧ Im.IsBytes bs' ∧ Im.decFrom dec [] n r1 = Im.decFrom dec l (n - k) bs' ∧ Rd b Bb Bp bs' wr ∧ Rk b Bb S U wr ∧ AllGood 26 (Good wr) l Cs ∧ ∃ Y, Box wr S 53 Y ∧ ∀ j, Y[j]? = if j < k * 26 then Cs.flatten[j]? else if j < n * 26 then (Value.agg En.zeroC).cells.toList[j % 26]? else none) (fun _ i _ => n - (intOf i).toNat)
  case atStart => exact ⟨0, [], [], r1, by omega, rfl, rfl, Y1.out.2.2.2, rfl, IU.out, Rk.refl _ _ _ _, trivial, Z, SU.out, HZ.out⟩
  case round =>
    obtain ⟨k, l, Cs, bs', hk, rfl, hlen, hy, hdec, hI, hK, hA, Y, hB, hYc⟩ := hrel
    by_cases hlt : k < n
    · have hk8 : (k : Int) < n := by omega
      rw [show n - k = (n - (k + 1)) + 1 by omega] at hdec
      have hwy : b ≤ wr.heap.size := Nat.le_trans hbU hK.below.size
      have hkn : (k + 1) * 26 ≤ n * 26 := Nat.mul_le_mul_right _ hlt
      have cc := Lib.hid (HC.out k S wr Y bs' hy (KU.out.below.trans hK.below) hSw.out hwy hI hB (fun j hj => by rw [hYc, if_neg (by omega), if_pos (by omega)]; congr 1; omega))
      have HNX := Lib.hid hdec
      have HLEN := Lib.hid hlen
      have K2 := Lib.hid hK
      have HA := Lib.hid hA
      have HBX := Lib.hid hB
      have HYC := Lib.hid hYc
      clear hI hK hB hdec hlen hy hwy hA hYc hkn
      go_wp2_with (go_at_call 81; ((with_reducible refine (cc.out).mono ?_); rintro e w3 (⟨v, r3, C, hr, rfl, hy, hI, hK, hCl, hG, Y', hB, hP⟩ | ⟨hn, ⟨ss, rfl⟩, hK⟩); (all_goals first | (have R3 := Lib.hid hr; have Y3 := Lib.hid hy; have I3 := Lib.hid hI; have K3 := Lib.hid (K2.out.trans hK); have A3 := Lib.hid ((HA.out.mono (fun v C => G1.out wr w3 S Y v C HBX.out hK.kb)).snoc hCl hG); have B3 := Lib.hid hB; have Z3 := Lib.hid (Im.Patch.snoc hP HYC.out hCl hlt (by rw [HA.out.len.2, HLEN.out])); clear hr hy hI hK hCl hG hB hP) | (have N3 := Lib.hid hn; have F3 := Lib.hid (K2.out.trans hK); clear hn hK))))
      · go_roundw
        case rel => exact ⟨k + 1, l ++ [v], Cs ++ [C], r3, by omega, by go_num, by rw [List.length_append, HLEN.out]; rfl, Y3.out, by rw [HNX.out, Im.decFrom_some R3.out], I3.out, K3.out, A3.out, Y', B3.out, Z3.out⟩
        case measure => simp [intOf]; omega
      · refine ⟨rfl, .inr ⟨?_, ⟨_, rfl⟩, KU.out.local F3.out hSz.out, F3.out.kb _ _ _ PU.out hSB.out.symm h1 h2⟩⟩
        rw [HDE.out, HNX.out, Im.decFrom_none N3.out]
    · have hk8 : ¬ (k : Int) < n := by omega
      obtain rfl : k = n := by omega
      rw [Nat.sub_self, Im.decFrom_zero] at hdec
      have HI := Lib.hid hI
      have HK := Lib.hid hK
      have HDX := Lib.hid hdec
      have HL := Lib.hid hlen
      have HYY := Lib.hid hy
      have PW := Lib.hid (hK.kb _ _ _ PU.out hSB.out.symm h1 h2)
      have pc : wr.cell? ⟨P, o, none⟩ = some (.slice none 0 0) := (PW.out.cell o).trans HO.out
      have pf : wr.frozen? ⟨P, o, none⟩ = false := PW.out.free o
      have eY : Y = Cs.flatten.toArray := by
        apply Array.ext_getElem?
        intro j
        have hl2 := hA.len.2
        rw [hYc j]
        by_cases hj : j < k * 26
        · rw [if_pos hj, List.getElem?_toArray]
        · rw [if_neg hj, if_neg hj, List.getElem?_toArray, List.getElem?_eq_none (by rw [hl2, hlen]; omega)]
      have HA := Lib.hid hA
      rw [eY] at hB
      have HBX := Lib.hid hB
      clear hI hK hB hdec hlen hy hA hYc eY
      go_wp2
      go_end0
      refine .inl ⟨l, bs', S, Cs, by rw [HDE.out, HDX.out], rfl, HYY.out, HI.out.off (p := ⟨P, o, none⟩) PW.out h3 h1 HB.out _, ?_, hSz.out, ?_, HBX.out.far hSB.out _, HA.out.mono fun v C => G2.out wr _ cs v C PW.out ((Kb.refl wr).put o _)⟩
      · exact (KU.out.local HK.out hSz.out).put HB.out o _
      · rw [HL.out]; exact PW.out.put o _
end Go.Proofs.Ytgmlbimgcifenaa
