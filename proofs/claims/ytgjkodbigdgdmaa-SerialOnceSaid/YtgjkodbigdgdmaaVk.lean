/-
SerialOnce: plainly, and the walk.
-/
import Derived.Test.YtgjkodbigdgdmaaVj
namespace Sr
open Go
set_option linter.unusedVariables false
def row41 (f : Nat → Bool) : List Value := [.bool (f 0), .bool (f 1), .bool (f 2), .bool (f 3), .bool (f 4), .bool (f 5), .bool (f 6), .bool (f 7), .bool (f 8), .bool (f 9), .bool (f 10), .bool (f 11), .bool (f 12), .bool (f 13), .bool (f 14), .bool (f 15), .bool (f 16), .bool (f 17), .bool (f 18), .bool (f 19), .bool (f 20), .bool (f 21), .bool (f 22), .bool (f 23), .bool (f 24), .bool (f 25), .bool (f 26), .bool (f 27), .bool (f 28), .bool (f 29), .bool (f 30), .bool (f 31), .bool (f 32), .bool (f 33), .bool (f 34), .bool (f 35), .bool (f 36), .bool (f 37), .bool (f 38), .bool (f 39), .bool (f 40)]
theorem row41_at (f : Nat → Bool) (i : Nat) (hi : i < 41) : (row41 f)[i]? = some (.bool (f i)) := by
  match i, hi with
  | 0, _ | 1, _ | 2, _ | 3, _ | 4, _ | 5, _ | 6, _ | 7, _ | 8, _ | 9, _ | 10, _ | 11, _ | 12, _ | 13, _ | 14, _ | 15, _ | 16, _ | 17, _ | 18, _ | 19, _ | 20, _ | 21, _ | 22, _ | 23, _ | 24, _ | 25, _ | 26, _ | 27, _ | 28, _ | 29, _ | 30, _ | 31, _ | 32, _ | 33, _ | 34, _ | 35, _ | 36, _ | 37, _ | 38, _ | 39, _ | 40, _ => rfl
  | n + 41, h => omega
theorem row41_set (f : Nat → Bool) (b : Bool) (i : Nat) (hi : i < 41) : (row41 f).toArray.setIfInBounds i (.bool b) = (row41 (fun j => if j = i then b else f j)).toArray := by
  match i, hi with
  | 0, _ | 1, _ | 2, _ | 3, _ | 4, _ | 5, _ | 6, _ | 7, _ | 8, _ | 9, _ | 10, _ | 11, _ | 12, _ | 13, _ | 14, _ | 15, _ | 16, _ | 17, _ | 18, _ | 19, _ | 20, _ | 21, _ | 22, _ | 23, _ | 24, _ | 25, _ | 26, _ | 27, _ | 28, _ | 29, _ | 30, _ | 31, _ | 32, _ | 33, _ | 34, _ | 35, _ | 36, _ | 37, _ | 38, _ | 39, _ | 40, _ => rfl
  | n + 41, h => omega
/-- What was new is told of, as far as it goes. -/
structure Once (f : Int) (h : H) (came : Nat → Bool) : Prop where
  ok : h.Ok
  no : h.some = false → ∀ k, k < 41 → came k = false
  yes : h.some = true → ∃ K : Nat, K ≤ 40 ∧ h.last = (f + K) % 65536 ∧ ∀ k, k < 41 → came k = true → k ≤ K ∧ (k = K ∨ 32 < K - k ∨ h.seen.testBit (K - k - 1) = true)
theorem Once.start (f : Int) : Once f none (fun _ => false) := ⟨none_ok, fun _ _ _ => rfl, fun h => by cases h⟩
theorem once_way (f : Int) (i j : Nat) (hi : i ≤ 40) (hj : j ≤ 40) : way ((f + i) % 65536) ((f + j) % 65536) = (j : Int) - i := way_unique (by omega) (by omega)
theorem Once.step {f : Int} {h : H} {came : Nat → Bool} (o : Once f h came) (hf : 0 ≤ f ∧ f ≤ 65535) (k : Nat) (hk : k ≤ 40) :
    (fresh h ((f + k) % 65536) = true → came k = false) ∧ Once f (note h ((f + k) % 65536)) (fun j => if j = k then (came k || fresh h ((f + k) % 65536)) else came j) ∧
      (fresh h ((f + k) % 65536) = true → told ((f + k) % 65536) (note h ((f + k) % 65536)).last (note h ((f + k) % 65536)).seen = true) := by
  have hs : 0 ≤ (f + k) % 65536 ∧ (f + k) % 65536 ≤ 65535 := by omega
  have hok := note_ok o.ok hs
  cases hso : h.some
  · obtain ⟨e1, e2⟩ := note_first hso ((f + k) % 65536)
    have hn := o.no hso
    refine ⟨fun _ => hn k (by omega), ?_, fun _ => ?_⟩
    · rw [e1]
      refine ⟨hok, fun h2 => (by rw [e2] at h2; cases h2), fun _ => ⟨k, hk, by rw [e2], fun j hj hc => ?_⟩⟩
      by_cases e : j = k
      · subst e; exact ⟨Nat.le_refl _, .inl rfl⟩
      · rw [if_neg e, hn j hj] at hc; cases hc
    · rw [e2]; unfold told; rw [decide_eq_true rfl]; rfl
  · obtain ⟨K, hK, hl, hall⟩ := o.yes hso
    have w1 : way h.last ((f + k) % 65536) = (k : Int) - K := by rw [hl]; exact once_way f K k hK hk
    have w2 : way ((f + k) % 65536) h.last = (K : Int) - k := by rw [hl]; exact once_way f k K hk hK
    by_cases hgt : K < k
    · obtain ⟨e1, e2⟩ := note_ahead hso (s := (f + k) % 65536) (by rw [w1]; omega)
      refine ⟨fun _ => ?_, ?_, fun _ => ?_⟩
      · cases hc : came k
        · rfl
        · have := (hall k (by omega) hc).1; omega
      · rw [e1]
        refine ⟨hok, fun h2 => (by rw [e2] at h2; cases h2), fun _ => ⟨k, hk, by rw [e2], fun j hj hc => ?_⟩⟩
        by_cases e : j = k
        · subst e; exact ⟨Nat.le_refl _, .inl rfl⟩
        · rw [if_neg e] at hc
          obtain ⟨h1, h2⟩ := hall j hj hc
          refine ⟨by omega, .inr ?_⟩
          by_cases h3 : 32 < k - j
          · exact .inl h3
          · right
            rw [e2]
            dsimp only
            rw [w1, up_test _ _ (by omega), decide_eq_true (by omega), Bool.true_and]
            rcases h2 with h2 | h2 | h2
            · rw [decide_eq_true (by omega)]; rfl
            · omega
            · by_cases h4 : j = K
              · rw [decide_eq_true (by omega)]; rfl
              · rw [show k - j - 1 - ((k : Int) - K).toNat = K - j - 1 by omega, h2, decide_eq_true (show (k : Int) - K ≤ ((k - j - 1 : Nat) : Int) by omega)]; simp
      · rw [e2]; unfold told; rw [decide_eq_true rfl]; rfl
    · have hna : ¬ 0 < way h.last ((f + k) % 65536) := by rw [w1]; omega
      have hn : note h ((f + k) % 65536) = ⟨h.some, h.last, h.seen ||| bitN ((K : Int) - k)⟩ := by
        unfold note
        rw [if_neg (by rw [hso]; decide), if_neg hna, w2]
      have hfr : fresh h ((f + k) % 65536) = (decide (1 ≤ (K : Int) - k ∧ (K : Int) - k ≤ 32) && !has h.seen ((K : Int) - k)) := by
        unfold fresh
        rw [hso, decide_eq_false hna, w2]; rfl
      refine ⟨fun hf1 => ?_, ?_, fun hf1 => ?_⟩
      · cases hc : came k
        · rfl
        · obtain ⟨h1, h2⟩ := hall k (by omega) hc
          rw [hfr, Bool.and_eq_true, decide_eq_true_iff] at hf1
          obtain ⟨h3, h4⟩ := hf1
          rcases h2 with h2 | h2 | h2
          · omega
          · omega
          · unfold has at h4
            rw [decide_eq_true h3, show ((K : Int) - k - 1).toNat = K - k - 1 by omega, h2] at h4
            cases h4
      · refine ⟨hok, fun h2 => ?_, fun _ => ⟨K, hK, by rw [hn]; exact hl, fun j hj hc => ?_⟩⟩
        · rw [hn] at h2; have h2' : h.some = false := h2; rw [hso] at h2'; cases h2'
        · have hor : ∀ i, h.seen.testBit i = true → (note h ((f + k) % 65536)).seen.testBit i = true := fun i hi => by rw [hn]; dsimp only; rw [Nat.testBit_or, hi]; rfl
          by_cases hcj : came j = true
          · obtain ⟨h1, h2⟩ := hall j hj hcj
            refine ⟨h1, ?_⟩
            rcases h2 with h2 | h2 | h2
            · exact .inl h2
            · exact .inr (.inl h2)
            · exact .inr (.inr (hor _ h2))
          · by_cases e : j = k
            · subst e
              rw [if_pos rfl] at hc
              have hf1 : fresh h ((f + j) % 65536) = true := by
                cases hcc : came j
                · rw [hcc] at hc; exact hc
                · exact absurd hcc hcj
              rw [hfr, Bool.and_eq_true, decide_eq_true_iff] at hf1
              refine ⟨by omega, .inr (.inr ?_)⟩
              rw [hn]
              dsimp only
              rw [Nat.testBit_or, bitN_test, decide_eq_true (by omega), Bool.or_true]
            · rw [if_neg e] at hc; exact absurd hc hcj
      · rw [hfr, Bool.and_eq_true, decide_eq_true_iff] at hf1
        rw [hn]
        unfold told has
        dsimp only
        rw [w2, decide_eq_true hf1.1, Nat.testBit_or, bitN_test, decide_eq_true (show 1 ≤ (K : Int) - k ∧ (K : Int) - k ≤ 32 ∧ (K : Int) - k = (((K : Int) - k - 1).toNat : Int) + 1 by omega)]
        simp
end Sr
namespace Go.Proofs.Ytgjkodbigdgdmaa
open Go.RowKit
set_option linter.unusedVariables false


/-- What a round finds. -/
structure OnceAt (w0 : World) (B C : Nat) (h : Sr.H) (came : Nat → Bool) (w : World) : Prop where
  prog : Box w B 48 h.cells
  row : Box w C 40 (Sr.row41 came).toArray
  kept : Below w0.heap.size w0 w
section
variable {w0 w w' : World} {B C : Nat} {h h' : Sr.H} {came : Nat → Bool}
theorem OnceAt.below (p : OnceAt w0 B C h came w) (hb : Below w.heap.size w w') : OnceAt w0 B C h came w' := ⟨p.prog.below hb p.prog.lt, p.row.below hb p.row.lt, p.kept.trans (hb.mono p.kept.size)⟩
theorem OnceAt.note (p : OnceAt w0 B C h came w) (hne : C ≠ B) (h0 : w0.heap.size ≤ B) (hb : Box w' B 48 h'.cells) (ho : Only B w w') : OnceAt w0 B C h' came w' := ⟨hb, ho.box p.row hne, ho.kept p.kept h0⟩
theorem OnceAt.put (p : OnceAt w0 B C h came w) (hne : B ≠ C) (h0 : w0.heap.size ≤ C) (i : Nat) (hi : i < 41) (b : Bool) : OnceAt w0 B C h (fun j => if j = i then b else came j) (w.setCell ⟨C, i, none⟩ (.bool b)) :=
  ⟨p.prog.far hne _, Sr.row41_set came b i hi ▸ p.row.put i _, p.kept.setCell h0 _⟩
end
theorem mod_plain (z n : Int) (hn : 0 < n ∧ n ≤ 100) : ∃ j : Nat, (j : Int) < n ∧ wrap64 ((IntKind.u64.wrap z).tmod n) = (j : Int) := by
  rw [u64_wrap_is]
  obtain ⟨y, hy⟩ : ∃ y, y = z % 18446744073709551616 := ⟨_, rfl⟩
  rw [← hy]
  have hy0 : 0 ≤ y := by omega
  clear hy
  have h1 := Int.emod_nonneg y (show n ≠ 0 by omega)
  have h2 := Int.emod_lt_of_pos y hn.1
  rw [Int.tmod_eq_emod_of_nonneg hy0, IntWalk.wrap64_in (y % n) (by omega)]
  exact ⟨(y % n).toNat, by omega, by omega⟩

set_option maxRecDepth 100000 in
set_option maxHeartbeats 4000000 in
theorem once11_main (f : Int) (hf : 0 ≤ f ∧ f ≤ 65535) (A : Option Addr) (c n : Nat) (l : List Int) (w : World) (hn : n = l.length) (hnm : n ≤ maxLen) (hL : Lies w w.heap.size 1 A n (l.flatMap fun x => [.int .i64 x])) :
    Calls Try.prog 5 #[.int .u16 f, .slice A n c] w fun e w' => e = .returned (.bool true) ∧ Kept w w' := by
  have cn := fun X => Lib.hid (sernew_any X)
  have c0 := fun X => Lib.hid (told11_any X)
  have wu : ∀ x, IntKind.u16.wrap x = x % 65536 := IntKind.wrap_u16
  have HL := Lib.hid hL
  have NL := Lib.hid hn
  clear hL hn
  unfold maxLen at hnm
  by_cases hn200 : n ≤ 150
  · have hn2 : ¬ (150 : Int) < n := by omega
    go_enter Try.func5, Try.ntmps5
    go_wp2_with ((go_at_call 15; ((with_reducible refine ((cn _).out).mono ?_); rintro e w0 ⟨rfl, rfl⟩; have HB0 := Lib.hid (Box.made w 48 Sr.none.cells); have HK0 := Lib.hid (one_below w (.cells Sr.none.cells 48)))))
    go_loopw [7, 8, 9, 10, 11, 12] (fun i x s v a b wr => ∃ (k : Nat) (h : Sr.H) (came : Nat → Bool), k ≤ n ∧ i = .int .i64 k ∧ Sr.Once f h came ∧ OnceAt w w.heap.size (w.heap.size + 1) h came wr) (fun i _ _ _ _ _ _ => n - (intOf i).toNat)
    case atStart =>
      refine ⟨0, Sr.none, fun _ => false, Nat.zero_le _, rfl, Sr.Once.start f, HB0.out.alloc _, ?_, HK0.out.alloc HK0.out.size _⟩
      exact Box.made_at (n := w.heap.size + 1) _ 40 (Sr.row41 fun _ => false).toArray (by simp)
    case round =>
      obtain ⟨k, h, came, hk, rfl, hO, hP⟩ := hrel
      clear HB0 HK0 cn
      have HP := Lib.hid hP
      have HO := Lib.hid hO
      clear hP hO
      by_cases hlt : k < n
      · have hkn : (k : Int) < n := by omega
        obtain ⟨ad, rfl, hadl⟩ := HL.out.start (by omega)
        have nb := NL.out
        have q0 := ints_at (HL.out.below HP.out.kept) nb k (by omega)
        clear nb
        generalize l.getD k 0 = z at q0
        go_upto_region 11 with fail
        obtain ⟨j, hj, hjz⟩ := mod_plain z 41 (by decide)
        rw [hjz]
        clear hjz q0
        have hj41 : j < 41 := by omega
        have hY : 0 ≤ (f + (j : Int)) % 65536 ∧ (f + (j : Int)) % 65536 ≤ 65535 := by omega
        obtain ⟨s1, s2, s3⟩ := HO.out.step hf j (by omega)
        have S2 := Lib.hid s2
        clear s2
        have n1 := Lib.hid (note_any h HO.out.ok ((f + (j : Int)) % 65536) w.heap.size wr HP.out.prog)
        have HO2 := Lib.hid (Sr.note_ok HO.out.ok hY)
        have N1 := Lib.hid (show w.heap.size + 1 ≠ w.heap.size by omega)
        have N2 := Lib.hid (show w.heap.size ≠ w.heap.size + 1 by omega)
        have E2 := Lib.hid (show w.heap.size ≤ w.heap.size + 1 by omega)
        generalize Sr.note h ((f + (j : Int)) % 65536) = h2 at *
        have l1 := fun X2 hX2 => Lib.hid (serlast_any h2 w.heap.size X2 hX2)
        cases hv : Sr.fresh h ((f + (j : Int)) % 65536)
        · rw [hv] at n1 S2
          rw [Bool.or_false] at S2
          clear s1 s3 hv
          go_upto_region 13 with ((go_at_call 16; ((with_reducible refine (n1.out).mono ?_); rintro e w2 ⟨rfl, hb, ho⟩; have HH := Lib.hid (HP.out.note N1.out (Nat.le_refl _) hb ho); clear hb ho)))
          have qc : w2.cell? ⟨w.heap.size + 1, j, none⟩ = some (.bool (came j)) := (HH.out.row.cell j).trans (by simpa using Sr.row41_at came j hj41)
          have fc := HH.out.row.free j
          have HQ := Lib.hid (HH.out.put N2.out E2.out j hj41 (came j))
          generalize came j = cj at *
          cases cj
          · go_upto_region 16 with fail
            clear qc fc HH
            generalize w2.setCell ⟨w.heap.size + 1, j, none⟩ (.bool false) = W3 at HQ ⊢
            go_wp2_with ((go_at_call 18; ((with_reducible refine ((l1 _ HQ.out.prog).out).mono ?_); rintro e w4 ⟨rfl, hb⟩; have HQ4 := Lib.hid (HQ.out.below hb); clear hb)))
            go_roundw
            case rel => exact ⟨k + 1, h2, _, by omega, by go_num, S2.out, HQ4.out⟩
            case measure => simp [intOf]; omega
          · go_upto_region 16 with fail
            clear qc fc HH
            generalize w2.setCell ⟨w.heap.size + 1, j, none⟩ (.bool true) = W3 at HQ ⊢
            go_wp2_with ((go_at_call 18; ((with_reducible refine ((l1 _ HQ.out.prog).out).mono ?_); rintro e w4 ⟨rfl, hb⟩; have HQ4 := Lib.hid (HQ.out.below hb); clear hb)))
            go_roundw
            case rel => exact ⟨k + 1, h2, _, by omega, by go_num, S2.out, HQ4.out⟩
            case measure => simp [intOf]; omega
        · have hcj := s1 hv
          have tt := fun X => t_told ((f + (j : Int)) % 65536) h2.last h2.seen _ rfl HO2.out.seen true (s3 hv) X
          rw [hv] at n1 S2
          rw [Bool.or_true] at S2
          clear s1 s3 hv
          go_upto_region 13 with ((go_at_call 16; ((with_reducible refine (n1.out).mono ?_); rintro e w2 ⟨rfl, hb, ho⟩; have HH := Lib.hid (HP.out.note N1.out (Nat.le_refl _) hb ho); clear hb ho)))
          have qc : w2.cell? ⟨w.heap.size + 1, j, none⟩ = some (.bool false) := hcj ▸ ((HH.out.row.cell j).trans (by simpa using Sr.row41_at came j hj41))
          have fc := HH.out.row.free j
          have HQ := Lib.hid (HH.out.put N2.out E2.out j hj41 true)
          clear hcj
          go_upto_region 16 with fail
          clear qc fc HH
          generalize w2.setCell ⟨w.heap.size + 1, j, none⟩ (.bool true) = W3 at HQ ⊢
          go_wp2_with (first | (go_at_call 18; ((with_reducible refine ((l1 _ HQ.out.prog).out).mono ?_); rintro e w4 ⟨rfl, hb⟩; have HQ4 := Lib.hid (HQ.out.below hb); clear hb)) | (go_at_call 13; ((with_reducible refine (tt _).out.mono ?_); rintro e w5 ⟨rfl, hb⟩; have HQ5 := Lib.hid (HQ4.out.below hb); clear hb)))
          go_roundw
          case rel => exact ⟨k + 1, h2, _, by omega, by go_num, S2.out, HQ5.out⟩
          case measure => simp [intOf]; omega
      · obtain rfl : k = n := by omega
        have K3 := Lib.hid HP.out.kept
        have m1 := fun X => Lib.hid (serlast_nil X)
        have m2 := fun X => Lib.hid (note_nil 3 X)
        go_wp2_with (first | (go_at_call 9; ((with_reducible refine (c0 _).out.mono ?_); rintro e w4 ⟨rfl, hb⟩; have HK4 := Lib.hid (K3.out.trans (hb.mono K3.out.size)); clear hb)) | (go_at_call 18; ((with_reducible refine ((m1 _).out).mono ?_); rintro e w9 ⟨rfl, rfl⟩)) | (go_at_call 16; ((with_reducible refine ((m2 _).out).mono ?_); rintro e w9 ⟨rfl, rfl⟩)))
        go_ret
        exact ⟨rfl, HK4.out⟩
  · have hn2 : (150 : Int) < n := by omega
    go_enter Try.func5, Try.ntmps5
    go_wp2_with (first | (go_at_call 15; ((with_reducible refine ((cn _).out).mono ?_); rintro e w0 ⟨rfl, rfl⟩; have HB0 := Lib.hid (Box.made w 48 Sr.none.cells); have HK0 := Lib.hid (one_below w (.cells Sr.none.cells 48)))) | (go_at_call 9; ((with_reducible refine (c0 _).out.mono ?_); rintro e w4 ⟨rfl, hb⟩; have HK4 := Lib.hid (HK0.out.trans (hb.mono HK0.out.size)); clear hb)))
    go_ret
    exact ⟨rfl, HK4.out⟩
end Go.Proofs.Ytgjkodbigdgdmaa
