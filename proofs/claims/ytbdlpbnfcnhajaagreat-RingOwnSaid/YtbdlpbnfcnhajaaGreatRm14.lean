/-
Several texts in one: Er Ra Rat Lt Rf Sl Hh Eo.
-/
import Derived.Test.YtbdlpbnfcnhajaaGreatRm13
set_option maxRecDepth 100000
set_option maxHeartbeats 8000000
set_option linter.unusedVariables false
set_option linter.unusedSimpArgs false
namespace En
open Go
def At (kd sl z : Int) : Prop := (kd = 2 ∧ (-1 ≤ sl ∧ sl ≤ 7) ∧ z = sl) ∨ (kd = 1 ∧ (0 ≤ sl ∧ sl ≤ 7) ∧ z = 8 + sl)
end En
namespace Go.Proofs.YtbdlpbnfcnhajaaGreat
open Go.RowKit Go.Shelf
theorem refmayin_any (x y b : Int) (w : World) (hx : -128 ≤ x) (hy : -128 ≤ y) :
 Calls Tryz.prog 59 #[.agg #[.int .i8 x, .int .i8 y, .int .u8 b]] w fun e w' => e = .returned (.bool (decide (-127 ≤ x ∧ -127 ≤ y))) ∧ Below w.heap.size w w' := by
 by_cases h1 : x = -128
 · subst h1
   go_enter Tryz.func59, Tryz.ntmps59
   go_wp2
   go_ret
   exact ⟨ret_bool (by simp), one_below _ _⟩
 · have e1 : (x != -128) = true := by simpa using h1
   by_cases h2 : y = -128
   · subst h2
     go_enter Tryz.func59, Tryz.ntmps59
     go_wp2
     go_ret
     exact ⟨ret_bool (by simp), one_below _ _⟩
   · have e2 : (y != -128) = true := by simpa using h2
     have hd : decide (-127 ≤ x ∧ -127 ≤ y) = true := decide_eq_true (by omega)
     rw [hd]
     go_enter Tryz.func59, Tryz.ntmps59
     go_wp2
     go_ret
     exact ⟨ret_bool (by simp), one_below _ _⟩
theorem refmayen_any (e : En.E) (A : Option Addr) (n c : Nat) (w : World) (hn : n = e.evs.length) (hn63 : n ≤ maxLen) (hty : ∀ i, i < 8 → Gm.tyIn (e.inp i)) (hL : Lies w w.heap.size 4 A n (En.evCells e.evs)) :
 Calls Tryz.prog 35 #[.agg (En.cells e (.slice A n c))] w fun r w' => r = .returned (.bool (decide (En.Ok e))) ∧ Below w.heap.size w w' := by
 obtain ⟨d, hv⟩ : ∃ d, d = decide (En.Ok e) := ⟨_, rfl⟩
 rw [← hv]
 have HV := qh hv
 have HN := qh hn
 clear hv hn
 have P0 := qh (Box.made w 51 (En.cells e (.slice A n c)))
 have K0 := qh (one_below w (.cells (En.cells e (.slice A n c)) 51))
 have hr0 := qh ((hL.below K0.out).wider K0.out.size)
 have c0 := P0.out.cell 0
 have c1 := P0.out.cell 1
 rw [En.cells_0] at c0
 rw [En.cells_1] at c1
 have n63 : (n : Int) ≤ 9223372036854775807 := by unfold maxLen at hn63; omega
 clear hL hn63
 by_cases hf1 : e.frame < 0
 · have hno := qh (show ¬ En.Ok e from fun h => by have := h.frame; omega)
   go_enter Tryz.func35, Tryz.ntmps35
   go_wp2
   go_ret
   exact ⟨ret_bool (by rw [HV.out]; exact (decide_eq_false hno.out).symm), K0.out⟩
 by_cases hf2 : 1048576 ≤ e.frame
 · have hno := qh (show ¬ En.Ok e from fun h => by have := h.frame; omega)
   go_enter Tryz.func35, Tryz.ntmps35
   go_wp2
   go_ret
   exact ⟨ret_bool (by rw [HV.out]; exact (decide_eq_false hno.out).symm), K0.out⟩
 have HF := qh (show 0 ≤ e.frame ∧ e.frame < 1048576 by omega)
 go_enter Tryz.func35, Tryz.ntmps35
 go_wp2
 go_loopw [3, 4, 5] (fun kv sv i wr => ∃ (k : Nat) (kd sl z : Int), k ≤ n ∧ i = .int .i64 k ∧ kv = .int .i64 kd ∧ sv = .int .i64 sl ∧ En.At kd sl z ∧ (En.Row (-1) e.evs ↔ En.Row z (e.evs.drop k)) ∧ Below (w.alloc (.cells (En.cells e (.slice A n c)) 51)).heap.size (w.alloc (.cells (En.cells e (.slice A n c)) 51)) wr) (fun _ _ i _ => n - (intOf i).toNat)
 case atStart => exact ⟨0, 2, -1, -1, by omega, rfl, rfl, rfl, .inl ⟨rfl, by omega, rfl⟩, Iff.rfl, Below.refl _ _⟩
 case round =>
  obtain ⟨k, kd, sl, z, hk, rfl, rfl, rfl, hat, hrow, hb⟩ := hrel
  have p1 := ((P0.out.below hb P0.out.lt).cell 1).trans (En.cells_1 _ _)
  have HB := qh hb
  have KB := qh (K0.out.trans (hb.mono K0.out.size))
  by_cases hlt : k < n
  · have hk8 : (k : Int) < n := by omega
    have hkl : k < e.evs.length := by have := HN.out; omega
    obtain ⟨ad, rfl, hbl, e0, e1, e2, e3⟩ := evs_at (hr0.out.below hb) HN.out k hkl
    rw [List.drop_eq_getElem_cons hkl] at hrow
    generalize hv : e.evs[k] = v at e0 e1 e2 e3 hrow
    obtain ⟨vk, vs, vg, vp⟩ := v
    dsimp only at e0 e1 e2 e3
    have hrow' : En.Row (-1) e.evs ↔ (En.evOk ⟨vk, vs, vg, vp⟩ ∧ z < En.place ⟨vk, vs, vg, vp⟩) ∧ En.Row (En.place ⟨vk, vs, vg, vp⟩) (e.evs.drop (k + 1)) := hrow
    have HW := qh hrow'
    have sz := hb.size
    have ltA : ad.block < wr.heap.size := Nat.lt_of_lt_of_le hbl hb.size
    have ltP := (P0.out.below hb P0.out.lt).lt
    have Q1 := qh (Box.made wr 79 #[.int .i64 vk, .int .i64 vs, .int .i64 vg, .int .i64 vp])
    have K1 := qh (KB.out.alloc KB.out.size (.cells #[.int .i64 vk, .int .i64 vs, .int .i64 vg, .int .i64 vp] 79))
    have KX := qh (HB.out.alloc HB.out.size (.cells #[.int .i64 vk, .int .i64 vs, .int .i64 vg, .int .i64 vp] 79))
    have q1 := Q1.out.cell
    have HAT := qh hat
    clear hrow hrow' hb hv hat
    rcases HAT.out with ⟨rfl, hs, rfl⟩ | ⟨rfl, hs, rfl⟩
    · by_cases k1 : vk = 1
      · subst k1
        have HPL := qh (show En.place ⟨1, vs, vg, vp⟩ = 8 + vs from rfl)
        by_cases t1 : vs ≤ -1
        · have HNO := qh (show ¬ (En.evOk ⟨1, vs, vg, vp⟩ ∧ z < En.place ⟨1, vs, vg, vp⟩) from fun h => by obtain ⟨⟨_, h2, _⟩, h5⟩ := h; rw [HPL.out] at h5; dsimp only at h2 h5; omega)
          go_wp2
          go_ret
          exact ⟨ret_bool (by rw [HV.out]; exact (decide_eq_false fun h => absurd (HW.out.1 h.row).1 HNO.out).symm), K1.out⟩
        by_cases t2 : 8 ≤ vs
        · have HNO := qh (show ¬ (En.evOk ⟨1, vs, vg, vp⟩ ∧ z < En.place ⟨1, vs, vg, vp⟩) from fun h => by obtain ⟨⟨_, h2, h3, h4⟩, _⟩ := h; dsimp only at h2 h3 h4; omega)
          go_wp2
          go_ret
          exact ⟨ret_bool (by rw [HV.out]; exact (decide_eq_false fun h => absurd (HW.out.1 h.row).1 HNO.out).symm), K1.out⟩
        by_cases t3 : vg < 1
        · have HNO := qh (show ¬ (En.evOk ⟨1, vs, vg, vp⟩ ∧ z < En.place ⟨1, vs, vg, vp⟩) from fun h => by obtain ⟨⟨_, h2, h3, h4⟩, _⟩ := h; dsimp only at h2 h3 h4; omega)
          go_wp2
          go_ret
          exact ⟨ret_bool (by rw [HV.out]; exact (decide_eq_false fun h => absurd (HW.out.1 h.row).1 HNO.out).symm), K1.out⟩
        by_cases t4 : 60000 < vg
        · have HNO := qh (show ¬ (En.evOk ⟨1, vs, vg, vp⟩ ∧ z < En.place ⟨1, vs, vg, vp⟩) from fun h => by obtain ⟨⟨_, h2, h3, h4⟩, _⟩ := h; dsimp only at h2 h3 h4; omega)
          go_wp2
          go_ret
          exact ⟨ret_bool (by rw [HV.out]; exact (decide_eq_false fun h => absurd (HW.out.1 h.row).1 HNO.out).symm), K1.out⟩
        by_cases t5 : vp < 0
        · have HNO := qh (show ¬ (En.evOk ⟨1, vs, vg, vp⟩ ∧ z < En.place ⟨1, vs, vg, vp⟩) from fun h => by obtain ⟨⟨_, h2, h3, h4⟩, _⟩ := h; dsimp only at h2 h3 h4; omega)
          go_wp2
          go_ret
          exact ⟨ret_bool (by rw [HV.out]; exact (decide_eq_false fun h => absurd (HW.out.1 h.row).1 HNO.out).symm), K1.out⟩
        by_cases t6 : 12 ≤ vp
        · have HNO := qh (show ¬ (En.evOk ⟨1, vs, vg, vp⟩ ∧ z < En.place ⟨1, vs, vg, vp⟩) from fun h => by obtain ⟨⟨_, h2, h3, h4⟩, _⟩ := h; dsimp only at h2 h3 h4; omega)
          go_wp2
          go_ret
          exact ⟨ret_bool (by rw [HV.out]; exact (decide_eq_false fun h => absurd (HW.out.1 h.row).1 HNO.out).symm), K1.out⟩
        have HNX := qh (show En.Row (-1) e.evs ↔ En.Row (8 + vs) (e.evs.drop (k + 1)) from by rw [HW.out, HPL.out]; exact ⟨fun h => h.2, fun h => ⟨⟨⟨by first | exact .inl rfl | exact .inr rfl, by dsimp only; omega, by dsimp only; omega, by dsimp only; omega⟩, by (try dsimp only); omega⟩, h⟩⟩)
        go_wp2
        go_roundw
        case rel => exact ⟨k + 1, 1, vs, 8 + vs, by omega, by go_num, rfl, rfl, .inr ⟨rfl, by omega, rfl⟩, HNX.out, KX.out⟩
        case measure => simp [intOf]; omega
      · by_cases k2 : vk = 2
        · subst k2
          have HPL := qh (show En.place ⟨2, vs, vg, vp⟩ = vs from rfl)
          by_cases t1 : vs ≤ z
          · have HNO := qh (show ¬ (En.evOk ⟨2, vs, vg, vp⟩ ∧ z < En.place ⟨2, vs, vg, vp⟩) from fun h => by obtain ⟨⟨_, h2, _⟩, h5⟩ := h; rw [HPL.out] at h5; dsimp only at h2 h5; omega)
            go_wp2
            go_ret
            exact ⟨ret_bool (by rw [HV.out]; exact (decide_eq_false fun h => absurd (HW.out.1 h.row).1 HNO.out).symm), K1.out⟩
          by_cases t2 : 8 ≤ vs
          · have HNO := qh (show ¬ (En.evOk ⟨2, vs, vg, vp⟩ ∧ z < En.place ⟨2, vs, vg, vp⟩) from fun h => by obtain ⟨⟨_, h2, h3, h4⟩, _⟩ := h; dsimp only at h2 h3 h4; omega)
            go_wp2
            go_ret
            exact ⟨ret_bool (by rw [HV.out]; exact (decide_eq_false fun h => absurd (HW.out.1 h.row).1 HNO.out).symm), K1.out⟩
          by_cases t3 : vg < 1
          · have HNO := qh (show ¬ (En.evOk ⟨2, vs, vg, vp⟩ ∧ z < En.place ⟨2, vs, vg, vp⟩) from fun h => by obtain ⟨⟨_, h2, h3, h4⟩, _⟩ := h; dsimp only at h2 h3 h4; omega)
            go_wp2
            go_ret
            exact ⟨ret_bool (by rw [HV.out]; exact (decide_eq_false fun h => absurd (HW.out.1 h.row).1 HNO.out).symm), K1.out⟩
          by_cases t4 : 60000 < vg
          · have HNO := qh (show ¬ (En.evOk ⟨2, vs, vg, vp⟩ ∧ z < En.place ⟨2, vs, vg, vp⟩) from fun h => by obtain ⟨⟨_, h2, h3, h4⟩, _⟩ := h; dsimp only at h2 h3 h4; omega)
            go_wp2
            go_ret
            exact ⟨ret_bool (by rw [HV.out]; exact (decide_eq_false fun h => absurd (HW.out.1 h.row).1 HNO.out).symm), K1.out⟩
          by_cases t5 : vp < 0
          · have HNO := qh (show ¬ (En.evOk ⟨2, vs, vg, vp⟩ ∧ z < En.place ⟨2, vs, vg, vp⟩) from fun h => by obtain ⟨⟨_, h2, h3, h4⟩, _⟩ := h; dsimp only at h2 h3 h4; omega)
            go_wp2
            go_ret
            exact ⟨ret_bool (by rw [HV.out]; exact (decide_eq_false fun h => absurd (HW.out.1 h.row).1 HNO.out).symm), K1.out⟩
          by_cases t6 : 12 ≤ vp
          · have HNO := qh (show ¬ (En.evOk ⟨2, vs, vg, vp⟩ ∧ z < En.place ⟨2, vs, vg, vp⟩) from fun h => by obtain ⟨⟨_, h2, h3, h4⟩, _⟩ := h; dsimp only at h2 h3 h4; omega)
            go_wp2
            go_ret
            exact ⟨ret_bool (by rw [HV.out]; exact (decide_eq_false fun h => absurd (HW.out.1 h.row).1 HNO.out).symm), K1.out⟩
          have HNX := qh (show En.Row (-1) e.evs ↔ En.Row (vs) (e.evs.drop (k + 1)) from by rw [HW.out, HPL.out]; exact ⟨fun h => h.2, fun h => ⟨⟨⟨by first | exact .inl rfl | exact .inr rfl, by dsimp only; omega, by dsimp only; omega, by dsimp only; omega⟩, by (try dsimp only); omega⟩, h⟩⟩)
          go_wp2
          go_roundw
          case rel => exact ⟨k + 1, 2, vs, vs, by omega, by go_num, rfl, rfl, .inl ⟨rfl, by omega, rfl⟩, HNX.out, KX.out⟩
          case measure => simp [intOf]; omega
        · have b1 : (vk == 1) = false := by simpa using k1
          have b2 : (vk != 2) = true := by simpa using k2
          have HNO := qh (show ¬ (En.evOk ⟨vk, vs, vg, vp⟩ ∧ z < En.place ⟨vk, vs, vg, vp⟩) from fun h => by obtain ⟨⟨h1, _⟩, _⟩ := h; dsimp only at h1; omega)
          go_wp2
          go_ret
          exact ⟨ret_bool (by rw [HV.out]; exact (decide_eq_false fun h => absurd (HW.out.1 h.row).1 HNO.out).symm), K1.out⟩
    · by_cases k1 : vk = 1
      · subst k1
        have HPL := qh (show En.place ⟨1, vs, vg, vp⟩ = 8 + vs from rfl)
        by_cases t1 : vs ≤ sl
        · have HNO := qh (show ¬ (En.evOk ⟨1, vs, vg, vp⟩ ∧ 8 + sl < En.place ⟨1, vs, vg, vp⟩) from fun h => by obtain ⟨⟨_, h2, _⟩, h5⟩ := h; rw [HPL.out] at h5; dsimp only at h2 h5; omega)
          go_wp2
          go_ret
          exact ⟨ret_bool (by rw [HV.out]; exact (decide_eq_false fun h => absurd (HW.out.1 h.row).1 HNO.out).symm), K1.out⟩
        by_cases t2 : 8 ≤ vs
        · have HNO := qh (show ¬ (En.evOk ⟨1, vs, vg, vp⟩ ∧ 8 + sl < En.place ⟨1, vs, vg, vp⟩) from fun h => by obtain ⟨⟨_, h2, h3, h4⟩, _⟩ := h; dsimp only at h2 h3 h4; omega)
          go_wp2
          go_ret
          exact ⟨ret_bool (by rw [HV.out]; exact (decide_eq_false fun h => absurd (HW.out.1 h.row).1 HNO.out).symm), K1.out⟩
        by_cases t3 : vg < 1
        · have HNO := qh (show ¬ (En.evOk ⟨1, vs, vg, vp⟩ ∧ 8 + sl < En.place ⟨1, vs, vg, vp⟩) from fun h => by obtain ⟨⟨_, h2, h3, h4⟩, _⟩ := h; dsimp only at h2 h3 h4; omega)
          go_wp2
          go_ret
          exact ⟨ret_bool (by rw [HV.out]; exact (decide_eq_false fun h => absurd (HW.out.1 h.row).1 HNO.out).symm), K1.out⟩
        by_cases t4 : 60000 < vg
        · have HNO := qh (show ¬ (En.evOk ⟨1, vs, vg, vp⟩ ∧ 8 + sl < En.place ⟨1, vs, vg, vp⟩) from fun h => by obtain ⟨⟨_, h2, h3, h4⟩, _⟩ := h; dsimp only at h2 h3 h4; omega)
          go_wp2
          go_ret
          exact ⟨ret_bool (by rw [HV.out]; exact (decide_eq_false fun h => absurd (HW.out.1 h.row).1 HNO.out).symm), K1.out⟩
        by_cases t5 : vp < 0
        · have HNO := qh (show ¬ (En.evOk ⟨1, vs, vg, vp⟩ ∧ 8 + sl < En.place ⟨1, vs, vg, vp⟩) from fun h => by obtain ⟨⟨_, h2, h3, h4⟩, _⟩ := h; dsimp only at h2 h3 h4; omega)
          go_wp2
          go_ret
          exact ⟨ret_bool (by rw [HV.out]; exact (decide_eq_false fun h => absurd (HW.out.1 h.row).1 HNO.out).symm), K1.out⟩
        by_cases t6 : 12 ≤ vp
        · have HNO := qh (show ¬ (En.evOk ⟨1, vs, vg, vp⟩ ∧ 8 + sl < En.place ⟨1, vs, vg, vp⟩) from fun h => by obtain ⟨⟨_, h2, h3, h4⟩, _⟩ := h; dsimp only at h2 h3 h4; omega)
          go_wp2
          go_ret
          exact ⟨ret_bool (by rw [HV.out]; exact (decide_eq_false fun h => absurd (HW.out.1 h.row).1 HNO.out).symm), K1.out⟩
        have HNX := qh (show En.Row (-1) e.evs ↔ En.Row (8 + vs) (e.evs.drop (k + 1)) from by rw [HW.out, HPL.out]; exact ⟨fun h => h.2, fun h => ⟨⟨⟨by first | exact .inl rfl | exact .inr rfl, by dsimp only; omega, by dsimp only; omega, by dsimp only; omega⟩, by (try dsimp only); omega⟩, h⟩⟩)
        go_wp2
        go_roundw
        case rel => exact ⟨k + 1, 1, vs, 8 + vs, by omega, by go_num, rfl, rfl, .inr ⟨rfl, by omega, rfl⟩, HNX.out, KX.out⟩
        case measure => simp [intOf]; omega
      · have b1 : (vk == 1) = false := by simpa using k1
        have b2 : (vk != 1) = true := by simpa using k1
        have HNO := qh (show ¬ (En.evOk ⟨vk, vs, vg, vp⟩ ∧ 8 + sl < En.place ⟨vk, vs, vg, vp⟩) from fun h => by
         obtain ⟨⟨h1, h2, _⟩, h5⟩ := h
         dsimp only at h1 h2
         have : vk = 2 := by omega
         subst this
         rw [show En.place ⟨2, vs, vg, vp⟩ = vs from rfl] at h5
         omega)
        go_wp2
        go_ret
        exact ⟨ret_bool (by rw [HV.out]; exact (decide_eq_false fun h => absurd (HW.out.1 h.row).1 HNO.out).symm), K1.out⟩
  · have hk8 : ¬ (k : Int) < n := by omega
    obtain rfl : k = n := by omega
    have hd : e.evs.drop k = [] := List.drop_eq_nil_of_le (by have := HN.out; omega)
    rw [hd] at hrow
    have HW := qh (show En.Row (-1) e.evs from hrow.2 trivial)
    clear hrow hb hat c0 c1
    go_wp2
    go_loopw [7] (fun i wq => ∃ m : Nat, m ≤ 8 ∧ i = .int .i64 m ∧ Below wr.heap.size wr wq ∧ ∀ j, j < m → En.inOk (e.inp j)) (fun i _ => 8 - (intOf i).toNat)
    case atStart => exact ⟨0, by omega, rfl, Below.refl _ _, fun j hj => absurd hj (Nat.not_lt_zero j)⟩
    case round =>
     obtain ⟨m, hm, rfl, hb2, hall⟩ := hrel
     have KM := qh (KB.out.trans (hb2.mono KB.out.size))
     have PM := qh ((P0.out.below HB.out P0.out.lt).below hb2 (P0.out.below HB.out P0.out.lt).lt)
     clear p1
     by_cases hlt8 : m < 8
     · have hm8 : (m : Int) < 8 := by omega
       have e0 := (PM.out.cell (2 + m * 3)).trans (En.cells_in e _ m 0 hlt8 (by omega))
       have e1 := (PM.out.cell (2 + m * 3 + 1)).trans (En.cells_in e _ m 1 hlt8 (by omega))
       have e2 := (PM.out.cell (2 + m * 3 + 2)).trans (En.cells_in e _ m 2 hlt8 (by omega))
       have hok : En.inOk (e.inp m) ↔ (-127 ≤ (e.inp m).x ∧ -127 ≤ (e.inp m).y) := Iff.rfl
       have hti := hty m hlt8
       have HK := qh (show ∀ j, j < m + 1 → j = m ∨ j < m from fun j hj => by omega)
       obtain ⟨p, hp⟩ : ∃ p, p = e.inp m := ⟨_, rfl⟩
       rw [← hp] at e0 e1 e2 hok hti
       obtain ⟨x, y, b⟩ := p
       simp only [Gm.In.cells, List.getElem?_cons_zero, List.getElem?_cons_succ, Nat.add_zero] at e0 e1 e2
       dsimp only at hok
       obtain ⟨tx, ty, tb⟩ := hti
       dsimp only at tx ty tb
       have cs := fun X => qh (refmayin_any x y b X tx.1 ty.1)
       have HP := qh hp
       have HALL := qh hall
       have HB2 := qh hb2
       clear hp hall hb2
       by_cases hi : -127 ≤ x ∧ -127 ≤ y
       · rw [decide_eq_true hi] at cs
         have hnew := qh (show ∀ j, j < m + 1 → En.inOk (e.inp j) from fun j hj => by
          rcases HK.out j hj with rfl | h
          · rw [← HP.out]; exact hok.2 hi
          · exact HALL.out j h)
         clear hok hi
         go_wp2_with (go_at_call 59; ((with_reducible refine ((cs _).out).mono ?_); rintro r w2 ⟨rfl, hb⟩; have K2 := qh (HB2.out.trans (hb.mono HB2.out.size)); clear hb))
         go_roundw
         case rel => exact ⟨m + 1, by omega, by go_num, K2.out, hnew.out⟩
         case measure => simp [intOf]; omega
       · rw [decide_eq_false hi] at cs
         have hno := qh (show ¬ En.Ok e from fun h => hi (by have := h.ins m hlt8; rw [← HP.out] at this; exact this))
         clear hok hi
         go_wp2_with (go_at_call 59; ((with_reducible refine ((cs _).out).mono ?_); rintro r w2 ⟨rfl, hb⟩; have K2 := qh (KM.out.trans (hb.mono KM.out.size)); clear hb))
         go_ret
         exact ⟨ret_bool (by rw [HV.out]; exact (decide_eq_false hno.out).symm), K2.out⟩
     · have hm8 : ¬ (m : Int) < 8 := by omega
       obtain rfl : m = 8 := by omega
       have hyes := qh (show En.Ok e from ⟨HF.out, HW.out, hall⟩)
       clear hall hb2
       go_wp2
       go_ret
       exact ⟨ret_bool (by rw [HV.out]; exact (decide_eq_true hyes.out).symm), KM.out⟩
structure Pa (w : World) (g0 : Gm.G) (s0 : Value) (r0 : Ros.R) (e : En.E) (sl : Value) (Bn : Nat) (g : Gm.G) (s : Value) (r : Ros.R) (W : World) : Prop where
 st : Box W w.heap.size 40 (Im.cells g0 s0 r0)
 en : Box W (w.heap.size + 1) 51 (En.cells e sl)
 out : Box W (w.heap.size + 1 + 1) 40 Im.zero
 nx : Box W Bn 40 (Im.cells g s r)
 far : w.heap.size + 1 + 1 < Bn
 below : Below w.heap.size w W
section
variable {w W W' : World} {g0 g : Gm.G} {s0 s : Value} {r0 r : Ros.R} {e : En.E} {sl : Value} {Bn : Nat}
theorem Pa.call (h : Pa w g0 s0 r0 e sl Bn g s r W) (hb : Below W.heap.size W W') : Pa w g0 s0 r0 e sl Bn g s r W' :=
 ⟨h.st.below hb h.st.lt, h.en.below hb h.en.lt, h.out.below hb h.out.lt, h.nx.below hb h.nx.lt, h.far, h.below.trans (hb.mono h.below.size)⟩
theorem Pa.alloc (h : Pa w g0 s0 r0 e sl Bn g s r W) (o : Obj) : Pa w g0 s0 r0 e sl Bn g s r (W.alloc o) := h.call (one_below W o)
theorem Pa.store {g' : Gm.G} {s' : Value} {r' : Ros.R} (h : Pa w g0 s0 r0 e sl Bn g s r W) : Pa w g0 s0 r0 e sl Bn g' s' r' (W.setRow Bn (Im.cells g' s' r')) :=
 ⟨h.st.row_far (by have := h.far; omega) _, h.en.row_far (by have := h.far; omega) _, h.out.row_far (by have := h.far; omega) _, h.nx.row _, h.far, Below.setRow' h.below (by have := h.far; omega) _⟩
theorem Pa.game {B' : Nat} {cs : Array Value} {c0 : Array Value} (h : Pa w g0 s0 r0 e sl Bn g s r W) (hG : Box W B' 33 c0) (hl : w.heap.size ≤ B') : Pa w g0 s0 r0 e sl Bn g s r (W.setRow B' cs) :=
 ⟨h.st.row_far (Box.apart h.st hG (by decide)) _, h.en.row_far (Box.apart h.en hG (by decide)) _, h.out.row_far (Box.apart h.out hG (by decide)) _, h.nx.row_far (Box.apart h.nx hG (by decide)) _, h.far, Below.setRow' h.below hl _⟩
end
theorem refspawn_out (g : Gm.G) (A : Option Addr) (n c i : Nat) (w : World) (hg : Gm.ok g) (hd : 0 ≤ g.dice ∧ g.dice ≤ 18446744073709551615) (hn : n = g.shots.length) (hr : Lies w w.heap.size 6 A n (Gm.shotCells g.shots)) (hi : i < 8) (ho : (g.ship i).on = false) :
 Calls Tryz.prog 37 #[.agg (Gm.cells g (.slice A n c)), .int .i64 i] w (Out (Gm.spawn g i) 0 w) :=
 (refspawn_yes g A n c i w hg hd hn hr hi ho).mono fun e w' h => ⟨A, c, by rw [h.1, hn]; rfl, by have := hr.call h.2; rw [hn] at this; exact this, h.2⟩
theorem in_neq10 (x y b : Int) (w : World) : (binOp .neq 48 (.agg #[.int .i8 x, .int .i8 y, .int .u8 b]) (.agg #[.int .i8 0, .int .i8 0, .int .u8 0])).run Tryz.prog w = .ok (.bool (!En.zero ⟨x, y, b⟩)) w := by
 have h : (Op.equalIn 10000 48 (.agg #[.int .i8 x, .int .i8 y, .int .u8 b]) (.agg #[.int .i8 0, .int .i8 0, .int .u8 0])).run Tryz.prog w = .ok (En.zero ⟨x, y, b⟩) w := by
  by_cases h1 : x = 0
  · by_cases h2 : y = 0
    · by_cases h3 : b = 0
      · subst h1 h2 h3; go_simp <;> simp [En.zero]
      · have h4 : (b == 0) = false := by simpa using h3
        subst h1 h2; go_simp <;> simp [h4, h3, En.zero]
    · have h4 : (y == 0) = false := by simpa using h2
      subst h1; go_simp <;> simp [h4, h2, En.zero]
  · have h4 : (x == 0) = false := by simpa using h1
    go_simp <;> simp [h4, h1, En.zero]
 generalize #[Value.int .i8 x, .int .i8 y, .int .u8 b] = F at *
 generalize #[Value.int .i8 0, .int .i8 0, .int .u8 0] = G at *
 go_simp
def RefBehind (s : Fd.S) (e : En.E) (w : World) (r : Ending) (w' : World) : Prop :=
 (∃ u, Fd.apply s e = some u ∧ SOut u.g u.r 0 w r w') ∨ (Fd.apply s e = none ∧ SOut s.g s.r 1 w r w')
theorem refbehind_not {s : Fd.S} {e : En.E} {w w' : World} {r : Ending} (h : Fd.apply s e = none) (hB : RefBehind s e w r w') : SOut s.g s.r 1 w r w' := by
 unfold RefBehind at hB
 rw [h] at hB
 rcases hB with ⟨v, hv, h2⟩ | ⟨_, h2⟩
 · cases hv
 · exact h2
theorem refapply_may (s : Fd.S) (e : En.E) (A A2 : Option Addr) (n c m c2 : Nat) (w : World) (hty : Gm.ty s.g) (hn63 : n ≤ maxLen) (hn : n = s.g.shots.length) (hr : Lies w w.heap.size 6 A n (Gm.shotCells s.g.shots)) (hm : m = e.evs.length) (hm63 : m ≤ maxLen) (hE : Lies w w.heap.size 4 A2 m (En.evCells e.evs)) (hin : ∀ i, i < 8 → Gm.tyIn (e.inp i)) (hno : ¬ Fd.May s e) :
 Calls Tryz.prog 9 #[.agg (Im.cells s.g (.slice A n c) s.r), .agg (En.cells e (.slice A2 m c2))] w (SOut s.g s.r 1 w) := by
 have B0 := qh (bh_start w s.g (.slice A n c) s.r e (.slice A2 m c2))
 have L0 := qh ((hr.below B0.out.below).wider B0.out.below.size)
 have E0 := qh ((hE.below B0.out.below).wider B0.out.below.size)
 have cm := qh (refstate_any s.g s.r A n c _ hty hn hn63 L0.out)
 have ce := fun X hX => qh (refmayen_any e A2 m c2 X hm hm63 hin hX)
 have hN := qh hn
 by_cases hok : Im.Ok s.g s.r
 · have HOK := qh hok
   by_cases hen : En.Ok e
   · have hfr : (e.frame != s.g.frame) = true := by simpa using fun h => hno ⟨hok, hen, h⟩
     simp only [decide_eq_true hen] at ce
     have hs0 : (Im.cells s.g (.slice A n c) s.r)[0]? = some (.int .i64 s.g.frame) := (Im.cells_g _ _ _ 0 (by omega)).trans (Gm.cells_0 _ _)
     have he0 := En.cells_0 e (.slice A2 m c2)
     clear hok hen hno hr hn hm hm63 hE hty
     go_enter Tryz.func9, Tryz.ntmps9
     go_wp2_with (first | (with_reducible refine alloc_state rfl rfl ?_) | ((with_reducible refine im_load_state rfl rfl ?_); apply LoadIm.mk rfl; (focus first | (with_reducible exact B0.out.st) | (with_reducible exact B2.out.st)); dsimp only) | (go_at_call 34; ((with_reducible refine ((cm).out).mono ?_); rintro x w1 ⟨⟨v, rfl, hv⟩, hb⟩; obtain rfl : v = true := hv.2 HOK.out; have B1 := qh (B0.out.call hb); have E1 := qh ((E0.out.below hb).wider hb.size); have L1 := qh (L0.out.call hb); clear hb hv)) | ((with_reducible refine en_load_g ?_ rfl ?_); (focus first | rfl | (simp [Region.wanted, yielded]; done)); apply LoadEn.mk rfl; (focus (with_reducible exact B1.out.en)); dsimp only) | (go_at_call 35; ((with_reducible refine ((ce _ E1.out).out).mono ?_); rintro x w2 ⟨rfl, hb⟩; have B2 := qh (B1.out.call hb); have k2s := B2.out.st.cell 0; have k2e := B2.out.en.cell 0; have L2 := qh (L1.out.call hb); clear hb)) | ((with_reducible refine im_store_state rfl rfl ?_); apply StoreS.mk rfl rfl; (focus (with_reducible exact B2.out.out)); (focus (exact Im.zero_size)); (focus rfl)))
     have hn := hN.out
     subst hn
     refine bodyPost_ret (v := .tuple #[.agg (Im.cells s.g (.slice A s.g.shots.length c) s.r), .int .i64 1]) ?_ ?_ ?_
     · exact results_cell_tmp (p := 4) (q := 5) rfl _ _ _ _ (Im.cells s.g (.slice A s.g.shots.length c) s.r) _ rfl (Box.row B2.out.out _) Tryz.underlying40 rfl (by rw [Im.cells_size]; exact state_info)
     · rfl
     · exact ⟨A, c, rfl, L2.out.zero_row rfl B2.out.out _, Below.setRow' B2.out.below (by omega) _⟩
   · simp only [decide_eq_false hen] at ce
     clear hok hen hno hr hn hm hm63 hE hty
     go_enter Tryz.func9, Tryz.ntmps9
     go_wp2_with (first | (with_reducible refine alloc_state rfl rfl ?_) | ((with_reducible refine im_load_state rfl rfl ?_); apply LoadIm.mk rfl; (focus first | (with_reducible exact B0.out.st) | (with_reducible exact B2.out.st)); dsimp only) | (go_at_call 34; ((with_reducible refine ((cm).out).mono ?_); rintro x w1 ⟨⟨v, rfl, hv⟩, hb⟩; obtain rfl : v = true := hv.2 HOK.out; have B1 := qh (B0.out.call hb); have E1 := qh ((E0.out.below hb).wider hb.size); have L1 := qh (L0.out.call hb); clear hb hv)) | ((with_reducible refine en_load_g ?_ rfl ?_); (focus first | rfl | (simp [Region.wanted, yielded]; done)); apply LoadEn.mk rfl; (focus (with_reducible exact B1.out.en)); dsimp only) | (go_at_call 35; ((with_reducible refine ((ce _ E1.out).out).mono ?_); rintro x w2 ⟨rfl, hb⟩; have B2 := qh (B1.out.call hb); have k2s := B2.out.st.cell 0; have k2e := B2.out.en.cell 0; have L2 := qh (L1.out.call hb); clear hb)) | ((with_reducible refine im_store_state rfl rfl ?_); apply StoreS.mk rfl rfl; (focus (with_reducible exact B2.out.out)); (focus (exact Im.zero_size)); (focus rfl)))
     have hn := hN.out
     subst hn
     refine bodyPost_ret (v := .tuple #[.agg (Im.cells s.g (.slice A s.g.shots.length c) s.r), .int .i64 1]) ?_ ?_ ?_
     · exact results_cell_tmp (p := 4) (q := 5) rfl _ _ _ _ (Im.cells s.g (.slice A s.g.shots.length c) s.r) _ rfl (Box.row B2.out.out _) Tryz.underlying40 rfl (by rw [Im.cells_size]; exact state_info)
     · rfl
     · exact ⟨A, c, rfl, L2.out.zero_row rfl B2.out.out _, Below.setRow' B2.out.below (by omega) _⟩
 · have HOK := qh hok
   clear hok hno hr hn hm hm63 hE hty
   go_enter Tryz.func9, Tryz.ntmps9
   go_wp2_with (first | (with_reducible refine alloc_state rfl rfl ?_) | ((with_reducible refine im_load_state rfl rfl ?_); apply LoadIm.mk rfl; (focus first | (with_reducible exact B0.out.st) | (with_reducible exact B1.out.st)); dsimp only) | (go_at_call 34; ((with_reducible refine ((cm).out).mono ?_); rintro x w1 ⟨⟨v, rfl, hv⟩, hb⟩; obtain rfl : v = false := (by cases v <;> first | rfl | exact absurd (hv.1 rfl) HOK.out); have B1 := qh (B0.out.call hb); have E1 := qh ((E0.out.below hb).wider hb.size); have L1 := qh (L0.out.call hb); clear hb hv)) | ((with_reducible refine im_store_state rfl rfl ?_); apply StoreS.mk rfl rfl; (focus (with_reducible exact B1.out.out)); (focus (exact Im.zero_size)); (focus rfl)))
   have hn := hN.out
   subst hn
   refine bodyPost_ret (v := .tuple #[.agg (Im.cells s.g (.slice A s.g.shots.length c) s.r), .int .i64 1]) ?_ ?_ ?_
   · exact results_cell_tmp (p := 4) (q := 5) rfl _ _ _ _ (Im.cells s.g (.slice A s.g.shots.length c) s.r) _ rfl (Box.row B1.out.out _) Tryz.underlying40 rfl (by rw [Im.cells_size]; exact state_info)
   · rfl
   · exact ⟨A, c, rfl, L1.out.zero_row rfl B1.out.out _, Below.setRow' B1.out.below (by omega) _⟩
theorem refapply_go (s : Fd.S) (e : En.E) (A A2 : Option Addr) (n c m c2 : Nat) (w : World) (hty : Gm.ty s.g) (hn63 : n ≤ maxLen) (hn : n = s.g.shots.length) (hr : Lies w w.heap.size 6 A n (Gm.shotCells s.g.shots)) (hm : m = e.evs.length) (hm63 : m ≤ maxLen) (hE : Lies w w.heap.size 4 A2 m (En.evCells e.evs)) (hin : ∀ i, i < 8 → Gm.tyIn (e.inp i)) (hmay : Fd.May s e) :
 Calls Tryz.prog 9 #[.agg (Im.cells s.g (.slice A n c) s.r), .agg (En.cells e (.slice A2 m c2))] w (RefBehind s e w) := by
 have B0 := qh (bh_start w s.g (.slice A n c) s.r e (.slice A2 m c2))
 have L0 := qh ((hr.below B0.out.below).wider B0.out.below.size)
 have E0 := qh ((hE.below B0.out.below).wider B0.out.below.size)
 have cm := qh (refstate_any s.g s.r A n c _ hty hn hn63 L0.out)
 have ce := fun X hX => qh (refmayen_any e A2 m c2 X hm hm63 hin hX)
 have hfine : Fd.Fine s := ⟨hmay.1, hty.2.1⟩
 have HF := qh hfine
 have HM := qh hmay
 have HE := qh hE
 have HR := qh hr
 have hN := qh hn
 have hMN := qh hm
 have m63 : (m : Int) ≤ 9223372036854775807 := by unfold maxLen at hm63; omega
 have hfr : (e.frame != s.g.frame) = false := by simpa using hmay.2.2
 simp only [decide_eq_true hmay.2.1] at ce
 have hs0 : (Im.cells s.g (.slice A n c) s.r)[0]? = some (.int .i64 s.g.frame) := (Im.cells_g _ _ _ 0 (by omega)).trans (Gm.cells_0 _ _)
 have he0 := En.cells_0 e (.slice A2 m c2)
 clear hmay hr hn hm hm63 hE hty hfine
 go_enter Tryz.func9, Tryz.ntmps9
 go_upto_region 4 with (first | (with_reducible refine alloc_state rfl rfl ?_) | ((with_reducible refine im_load_state rfl rfl ?_); apply LoadIm.mk rfl; (focus first | (with_reducible exact B0.out.st) | (with_reducible exact B2.out.st)); dsimp only) | (go_at_call 34; ((with_reducible refine ((cm).out).mono ?_); rintro x w1 ⟨⟨v, rfl, hv⟩, hb⟩; obtain rfl : v = true := hv.2 HM.out.1; have B1 := qh (B0.out.call hb); have E1 := qh ((E0.out.below hb).wider hb.size); have L1 := qh (L0.out.call hb); clear hb hv)) | ((with_reducible refine en_load_g ?_ rfl ?_); (focus first | rfl | (simp [Region.wanted, yielded]; done)); apply LoadEn.mk rfl; (focus (with_reducible exact B1.out.en)); dsimp only) | (go_at_call 35; ((with_reducible refine ((ce _ E1.out).out).mono ?_); rintro x w2 ⟨rfl, hb⟩; have B2 := qh (B1.out.call hb); have k2s := B2.out.st.cell 0; have k2e := B2.out.en.cell 0; have P2 := qh (show Pa w s.g (.slice A n c) s.r e (.slice A2 m c2) w2.heap.size s.g (.slice A n c) s.r (w2.alloc (.cells (Im.cells s.g (.slice A n c) s.r) 40)) from ⟨B2.out.st.alloc _, B2.out.en.alloc _, B2.out.out.alloc _, Box.made _ _ _, B2.out.out.lt, B2.out.below.alloc B2.out.below.size _⟩); have L2 := qh ((L1.out.call hb).call (one_below w2 (.cells (Im.cells s.g (.slice A n c) s.r) 40))); clear hb)) | (with_reducible refine im_store_new rfl rfl rfl rfl Im.zero_size rfl ?_))
 clear B0 L0 E0 cm ce B1 E1 L1 B2 k2s k2e hs0 he0 hfr
 have hn := hN.out
 subst hn
 generalize hW2 : w2.alloc (.cells (Im.cells s.g (.slice A s.g.shots.length c) s.r) 40) = W2 at P2 L2 ⊢
 generalize w2.heap.size = Bn at P2 ⊢
 clear hW2
 go_wp2
 go_loopw [7] (fun i wr => ∃ (k : Nat) (t : Fd.S) (A' : Option Addr) (c' : Nat), k ≤ m ∧ i = .int .i64 k ∧ Fd.changes s (e.evs.take k) = some t ∧ Pa w s.g (.slice A s.g.shots.length c) s.r e (.slice A2 m c2) Bn t.g (.slice A' t.g.shots.length c') t.r wr ∧ Lies wr wr.heap.size 6 A' t.g.shots.length (Gm.shotCells t.g.shots)) (fun i _ => m - (intOf i).toNat)
 case atStart => exact ⟨0, s, A, c, Nat.zero_le _, rfl, rfl, P2.out, L2.out⟩
 case round =>
  obtain ⟨k, t, A', c', hk, rfl, hch, hB, hL⟩ := hrel
  clear P2 L2
  have en1 := (hB.en.cell 1).trans (En.cells_1 e (.slice A2 m c2))
  by_cases hlt : k < m
  · have hk8 : (k : Int) < m := by omega
    have hkl : k < e.evs.length := by have := hMN.out; omega
    obtain ⟨ad, rfl, hbl, e0, e1, e2, e3⟩ := evs_at (HE.out.below hB.below) hMN.out k hkl
    have hok := En.row_mem e.evs (-1) HM.out.2.1.row e.evs[k] (List.getElem_mem hkl)
    have hft := (HF.out.changes hch).1
    have hgo := qh (fun hv : Fd.MayEv t e.evs[k] => Fd.changes_go hkl hch hv)
    have hst := qh (fun hv : ¬ Fd.MayEv t e.evs[k] => Fd.apply_stop HM.out (Fd.changes_stop hkl hch hv))
    have cy' := fun X (hv : Fd.MayEv t e.evs[k]) => qh (refevent_yes t e.evs[k] X hv)
    have cn' := fun X (hv : ¬ Fd.MayEv t e.evs[k]) => qh (refevent_no t e.evs[k] X hok hv)
    have HFT := qh hft
    generalize hv : e.evs[k] = v at e0 e1 e2 e3 hgo hst cy' cn' hok
    have sz := hB.below.size
    have ltA : ad.block < wr.heap.size := by omega
    have ltP : Bn < wr.heap.size := hB.nx.lt
    have P4 := fun o => qh (hB.alloc o)
    have L4 := fun o => qh (hL.call (one_below wr o))
    have V4 := qh (Box.made wr 79 #[.int .i64 v.kind, .int .i64 v.slot, .int .i64 v.gen, .int .i64 v.peer])
    have r0 := (HR.out.below hB.below)
    have L0 := qh r0
    clear r0
    by_cases hev : Fd.MayEv t v
    · have cs := fun X => cy' X hev
      have HG := qh (hgo.out hev)
      clear hgo hst cy' cn' hv hok hch hB hL hft
      rcases hev with ⟨hk1, ht, hg1⟩ | ⟨hk1, ht, hp1, hg1⟩
      · obtain ⟨j, hj8, ej, ej', hpj, ht', hp0⟩ := Fd.take_on ht
        have hau : Fd.after t v = ⟨Gm.spawn t.g j, Ros.take t.r j v.peer⟩ := by unfold Fd.after; rw [if_pos hk1, ej']
        have hoff : (t.g.ship j).on = false := (HFT.out.ok.2.2 j hj8).trans (decide_eq_false (by omega))
        have cg := fun X hX => qh (refspawn_out t.g A' t.g.shots.length c' j X HFT.out.ok.1 HFT.out.dice rfl hX hj8 hoff)
        rw [hau] at HG
        simp only [hau] at cs
        obtain ⟨vk, vs, vg, vp⟩ := v
        dsimp only at e0 e1 e2 e3 cs hk1 ej V4 HG
        subst hk1 ej
        clear ht ht' hg1 hpj hp0 hau hoff ej'
        generalize hRR : Ros.take t.r j vp = RR at cs HG
        generalize hGG : Gm.spawn t.g j = GG at cg HG
        clear hRR hGG
        go_upto_region 12 with (first | ((with_reducible refine row_load rfl rfl Tryz.underlying79 rfl ?_); apply LoadRow.mk rfl; (focus (with_reducible exact V4.out)); (focus (exact ev4_size))) | ((with_reducible refine im_load_ros rfl rfl ?_); apply LoadIm.mk rfl; (focus (with_reducible exact (P4 _).out.nx)); dsimp only) | (go_at_call 31; ((with_reducible refine ((cs _).out).mono ?_); rintro x w5 ⟨rfl, hb⟩; have P5 := qh (((P4 _).out.call hb).alloc (.cells (Ros.cells RR) 38)); have V5 := qh ((V4.out.below hb V4.out.lt).alloc (.cells (Ros.cells RR) 38)); have R5 := qh (Box.made w5 38 (Ros.cells RR)); have L5 := qh (((L4 _).out.call hb).call (one_below w5 (.cells (Ros.cells RR) 38))); have P6 := qh (P5.out.store (g' := t.g) (s' := .slice A' t.g.shots.length c') (r' := RR)); have V6 := qh (V5.out.row_far (Box.apart V5.out P5.out.nx (by decide)) (Im.cells t.g (.slice A' t.g.shots.length c') RR)); have L6 := qh (L5.out.state_row rfl P5.out.nx (Im.cells t.g (.slice A' t.g.shots.length c') RR)); clear hb)) | (with_reducible refine ros_alloc rfl rfl ?_) | ((with_reducible refine ros_store_new rfl rfl rfl rfl rfl ?_)) | ((with_reducible refine ros_load rfl rfl ?_); apply LoadRow.mk rfl; (focus (with_reducible exact R5.out)); (focus (exact ros_info))) | ((with_reducible refine im_store_ros rfl rfl ?_); apply StoreR.mk rfl rfl; (focus (with_reducible exact P5.out.nx))))
        generalize hW6 : (w5.alloc (.cells (Ros.cells RR) 38)).setRow Bn (Im.cells t.g (.slice A' t.g.shots.length c') RR) = W6 at P6 V6 L6 ⊢
        clear hW6 P5 V5 L5 R5 P4 V4 L4 cs e0 e1 e2 e3
        have P7 := qh (P6.out.alloc (.cells (Gm.cells t.g (.slice A' t.g.shots.length c')) 33))
        have V7 := qh (V6.out.alloc (.cells (Gm.cells t.g (.slice A' t.g.shots.length c')) 33))
        have L7 := qh (L6.out.call (one_below W6 (.cells (Gm.cells t.g (.slice A' t.g.shots.length c')) 33)))
        have G7 := qh (Box.made W6 33 (Gm.cells t.g (.slice A' t.g.shots.length c')))
        have z7 := qh P6.out.below.size
        go_upto_region 13 with (first | ((with_reducible refine im_load_game rfl rfl ?_); apply LoadIm.mk rfl; (focus (with_reducible exact P6.out.nx)); dsimp only) | (refine wpList_alloc_game rfl rfl ?_) | (refine wpList_store_game_new rfl rfl rfl rfl rfl rfl ?_))
        try simp only [World.size_alloc]
        generalize hW7 : W6.alloc (.cells (Gm.cells t.g (.slice A' t.g.shots.length c')) 33) = W7 at P7 V7 L7 G7 ⊢
        generalize W6.heap.size = bg at G7 z7 ⊢
        clear hW7 P6 V6 L6
        have v7 := V7.out.cell
        go_upto_region 16 with (first | ((with_reducible refine load_gate rfl rfl ?_); apply LoadGame.mk rfl; (with_reducible exact G7.out)) | (go_at_call 37; ((with_reducible refine ((cg _ L7.out).out).mono ?_); rintro x w8 ⟨A8, c8, rfl, hL8, hb⟩; have P8 := qh (P7.out.call hb); have G8 := qh (G7.out.below hb G7.out.lt); have L8 := qh hL8; clear hb hL8)) | ((with_reducible refine store_gate rfl rfl ?_); apply StoreGame.mk rfl rfl rfl; (with_reducible exact G8.out)))
        have P9 := qh (P8.out.game (cs := Gm.cells GG (.slice A8 GG.shots.length c8)) G8.out z7.out)
        have G9 := qh (G8.out.row (Gm.cells GG (.slice A8 GG.shots.length c8)))
        have L9 := qh (L8.out.game_row rfl G8.out (Gm.cells GG (.slice A8 GG.shots.length c8)))
        try simp only [World.size_alloc]
        generalize hW9 : w8.setRow bg (Gm.cells GG (.slice A8 GG.shots.length c8)) = W9 at P9 G9 L9 ⊢
        clear hW9 P8 G8 L8 P7 V7 L7 G7 v7 cg
        have P10 := qh (P9.out.store (g' := GG) (s' := .slice A8 GG.shots.length c8) (r' := RR))
        have L10 := qh (L9.out.state_row rfl P9.out.nx (Im.cells GG (.slice A8 GG.shots.length c8) RR))
        go_wp2_with (first | ((with_reducible refine load_gate rfl rfl ?_); apply LoadGame.mk rfl; (with_reducible exact G9.out)) | ((with_reducible refine im_store_game rfl rfl ?_); apply StoreG.mk rfl rfl; (focus (with_reducible exact P9.out.nx)); (focus rfl)))
        go_roundw
        case rel => exact ⟨k + 1, ⟨GG, RR⟩, A8, c8, by omega, by go_num, HG.out, P10.out, L10.out⟩
        case measure => simp [intOf]; omega
      · obtain ⟨j, hj8, ej, ej', hpj, ht'⟩ := Fd.give_on ht
        have hau : Fd.after t v = ⟨Gm.remove t.g j, Ros.give t.r j⟩ := by unfold Fd.after; rw [if_neg (by omega), ej']
        have hon : (t.g.ship j).on = true := (HFT.out.ok.2.2 j hj8).trans (decide_eq_true hpj)
        have cg := fun X hX => qh (refremove_yes t.g A' t.g.shots.length c' j X HFT.out.ok.1 rfl hX hj8 hon)
        rw [hau] at HG
        simp only [hau] at cs
        obtain ⟨vk, vs, vg, vp⟩ := v
        dsimp only at e0 e1 e2 e3 cs hk1 ej V4 HG
        subst hk1 ej
        clear ht ht' hg1 hpj hp1 hau hon ej'
        generalize hRR : Ros.give t.r j = RR at cs HG
        generalize hGG : Gm.remove t.g j = GG at cg HG
        clear hRR hGG
        go_upto_region 12 with (first | ((with_reducible refine row_load rfl rfl Tryz.underlying79 rfl ?_); apply LoadRow.mk rfl; (focus (with_reducible exact V4.out)); (focus (exact ev4_size))) | ((with_reducible refine im_load_ros rfl rfl ?_); apply LoadIm.mk rfl; (focus (with_reducible exact (P4 _).out.nx)); dsimp only) | (go_at_call 31; ((with_reducible refine ((cs _).out).mono ?_); rintro x w5 ⟨rfl, hb⟩; have P5 := qh (((P4 _).out.call hb).alloc (.cells (Ros.cells RR) 38)); have V5 := qh ((V4.out.below hb V4.out.lt).alloc (.cells (Ros.cells RR) 38)); have R5 := qh (Box.made w5 38 (Ros.cells RR)); have L5 := qh (((L4 _).out.call hb).call (one_below w5 (.cells (Ros.cells RR) 38))); have P6 := qh (P5.out.store (g' := t.g) (s' := .slice A' t.g.shots.length c') (r' := RR)); have V6 := qh (V5.out.row_far (Box.apart V5.out P5.out.nx (by decide)) (Im.cells t.g (.slice A' t.g.shots.length c') RR)); have L6 := qh (L5.out.state_row rfl P5.out.nx (Im.cells t.g (.slice A' t.g.shots.length c') RR)); clear hb)) | (with_reducible refine ros_alloc rfl rfl ?_) | ((with_reducible refine ros_store_new rfl rfl rfl rfl rfl ?_)) | ((with_reducible refine ros_load rfl rfl ?_); apply LoadRow.mk rfl; (focus (with_reducible exact R5.out)); (focus (exact ros_info))) | ((with_reducible refine im_store_ros rfl rfl ?_); apply StoreR.mk rfl rfl; (focus (with_reducible exact P5.out.nx))))
        generalize hW6 : (w5.alloc (.cells (Ros.cells RR) 38)).setRow Bn (Im.cells t.g (.slice A' t.g.shots.length c') RR) = W6 at P6 V6 L6 ⊢
        clear hW6 P5 V5 L5 R5 P4 V4 L4 cs e0 e1 e2 e3
        have P7 := qh (P6.out.alloc (.cells (Gm.cells t.g (.slice A' t.g.shots.length c')) 33))
        have V7 := qh (V6.out.alloc (.cells (Gm.cells t.g (.slice A' t.g.shots.length c')) 33))
        have L7 := qh (L6.out.call (one_below W6 (.cells (Gm.cells t.g (.slice A' t.g.shots.length c')) 33)))
        have G7 := qh (Box.made W6 33 (Gm.cells t.g (.slice A' t.g.shots.length c')))
        have z7 := qh P6.out.below.size
        go_upto_region 13 with (first | ((with_reducible refine im_load_game rfl rfl ?_); apply LoadIm.mk rfl; (focus (with_reducible exact P6.out.nx)); dsimp only) | (refine wpList_alloc_game rfl rfl ?_) | (refine wpList_store_game_new rfl rfl rfl rfl rfl rfl ?_))
        try simp only [World.size_alloc]
        generalize hW7 : W6.alloc (.cells (Gm.cells t.g (.slice A' t.g.shots.length c')) 33) = W7 at P7 V7 L7 G7 ⊢
        generalize W6.heap.size = bg at G7 z7 ⊢
        clear hW7 P6 V6 L6
        have v7 := V7.out.cell
        go_upto_region 16 with (first | ((with_reducible refine load_gate rfl rfl ?_); apply LoadGame.mk rfl; (with_reducible exact G7.out)) | (go_at_call 36; ((with_reducible refine ((cg _ L7.out).out).mono ?_); rintro x w8 ⟨A8, c8, rfl, hL8, hb⟩; have P8 := qh (P7.out.call hb); have G8 := qh (G7.out.below hb G7.out.lt); have L8 := qh hL8; clear hb hL8)) | ((with_reducible refine store_gate rfl rfl ?_); apply StoreGame.mk rfl rfl rfl; (with_reducible exact G8.out)))
        have P9 := qh (P8.out.game (cs := Gm.cells GG (.slice A8 GG.shots.length c8)) G8.out z7.out)
        have G9 := qh (G8.out.row (Gm.cells GG (.slice A8 GG.shots.length c8)))
        have L9 := qh (L8.out.game_row rfl G8.out (Gm.cells GG (.slice A8 GG.shots.length c8)))
        try simp only [World.size_alloc]
        generalize hW9 : w8.setRow bg (Gm.cells GG (.slice A8 GG.shots.length c8)) = W9 at P9 G9 L9 ⊢
        clear hW9 P8 G8 L8 P7 V7 L7 G7 v7 cg
        have P10 := qh (P9.out.store (g' := GG) (s' := .slice A8 GG.shots.length c8) (r' := RR))
        have L10 := qh (L9.out.state_row rfl P9.out.nx (Im.cells GG (.slice A8 GG.shots.length c8) RR))
        go_wp2_with (first | ((with_reducible refine load_gate rfl rfl ?_); apply LoadGame.mk rfl; (with_reducible exact G9.out)) | ((with_reducible refine im_store_game rfl rfl ?_); apply StoreG.mk rfl rfl; (focus (with_reducible exact P9.out.nx)); (focus rfl)))
        go_roundw
        case rel => exact ⟨k + 1, ⟨GG, RR⟩, A8, c8, by omega, by go_num, HG.out, P10.out, L10.out⟩
        case measure => simp [intOf]; omega
    · have cs := fun X => cn' X hev
      have HG := qh (hst.out hev)
      obtain ⟨vk, vs, vg, vp⟩ := v
      dsimp only at e0 e1 e2 e3 cs V4
      clear hgo hst cy' cn' hv hev hok hch hB hL hft
      go_wp2_with (first | ((with_reducible refine row_load rfl rfl Tryz.underlying79 rfl ?_); apply LoadRow.mk rfl; (focus (with_reducible exact V4.out)); (focus (exact ev4_size))) | ((with_reducible refine im_load_ros rfl rfl ?_); apply LoadIm.mk rfl; (focus (with_reducible exact (P4 _).out.nx)); dsimp only) | (go_at_call 31; ((with_reducible refine ((cs _).out).mono ?_); rintro x w5 ⟨rfl, hb⟩; have P5 := qh (((P4 _).out.call hb).alloc (.cells (Ros.cells t.r) 38)); have L5 := qh (((L0.out.below ((one_below wr _).mono sz)).below (hb.mono (Nat.le_trans sz (one_below wr _).size))).below ((one_below w5 (.cells (Ros.cells t.r) 38)).mono (Nat.le_trans (Nat.le_trans sz (one_below wr _).size) hb.size))); clear hb)) | (with_reducible refine ros_alloc rfl rfl ?_) | ((with_reducible refine ros_store_new rfl rfl rfl rfl rfl ?_)) | ((with_reducible refine im_load_state rfl rfl ?_); apply LoadIm.mk rfl; (focus (with_reducible exact P5.out.st)); dsimp only) | ((with_reducible refine im_store_state rfl rfl ?_); apply StoreS.mk rfl rfl; (focus (with_reducible exact P5.out.out)); (focus (exact Im.zero_size)); (focus rfl)))
      refine bodyPost_ret (v := .tuple #[.agg (Im.cells s.g (.slice A s.g.shots.length c) s.r), .int .i64 1]) ?_ ?_ ?_
      · exact results_cell_tmp (p := 4) (q := 5) rfl _ _ _ _ (Im.cells s.g (.slice A s.g.shots.length c) s.r) _ rfl (Box.row P5.out.out _) Tryz.underlying40 rfl (by rw [Im.cells_size]; exact state_info)
      · rfl
      · exact .inr ⟨HG.out, A, c, rfl, (L5.out.wider P5.out.below.size).zero_row rfl P5.out.out _, Below.setRow' P5.out.below (by omega) _⟩
  · have hk8 : ¬ (k : Int) < m := by omega
    obtain rfl : k = m := by omega
    obtain ⟨k0, hk0⟩ : ∃ k0, k0 = k := ⟨_, rfl⟩
    rw [hMN.out, List.take_length] at hch
    have HC := qh hch
    rw [← hk0] at hB
    have P3 := qh hB
    have L3 := qh hL
    have HT := qh (HF.out.changes hch)
    clear hch hB hL
    go_wp2
    go_loopw [13] (fun i wr => ∃ k : Nat, k ≤ 8 ∧ i = .int .i64 k ∧ Pa w s.g (.slice A s.g.shots.length c) s.r e (.slice A2 k0 c2) Bn t.g (.slice A' t.g.shots.length c') t.r wr ∧ Lies wr wr.heap.size 6 A' t.g.shots.length (Gm.shotCells t.g.shots) ∧ ∀ j, j < k → t.r.peer j < 0 → En.zero (e.inp j) = true) (fun i _ => 8 - (intOf i).toNat)
    case atStart => exact ⟨0, by omega, rfl, P3.out, L3.out, fun j hj => absurd hj (Nat.not_lt_zero j)⟩
    case round =>
     obtain ⟨k, hk, rfl, hB, hL, hall⟩ := hrel
     clear P3 L3 en1
     by_cases hlt : k < 8
     · have hk8 : (k : Int) < 8 := by omega
       have c0 := (hB.nx.cell (60 + k * 2)).trans (Im.cells_peer t.g _ t.r k hlt)
       have i0 := (hB.en.cell (2 + k * 3)).trans (En.cells_in e _ k 0 hlt (by omega))
       have i1 := (hB.en.cell (2 + k * 3 + 1)).trans (En.cells_in e _ k 1 hlt (by omega))
       have i2 := (hB.en.cell (2 + k * 3 + 2)).trans (En.cells_in e _ k 2 hlt (by omega))
       have hnext := qh (fun (h : t.r.peer k < 0 → En.zero (e.inp k) = true) => show ∀ j, j < k + 1 → t.r.peer j < 0 → En.zero (e.inp j) = true from fun j hj => by
        by_cases ej : j = k
        · rw [ej]; exact h
        · exact hall j (by omega))
       have hbad := qh (fun (h : t.r.peer k < 0) (h' : En.zero (e.inp k) = false) => Fd.apply_idle HM.out HC.out (fun hi => by have := hi k hlt h; rw [h'] at this; cases this))
       obtain ⟨p, hp⟩ : ∃ p, p = e.inp k := ⟨_, rfl⟩
       rw [← hp] at i0 i1 i2 hnext hbad
       obtain ⟨x, y, b⟩ := p
       simp only [Gm.In.cells, List.getElem?_cons_zero, List.getElem?_cons_succ, Nat.add_zero] at i0 i1 i2
       have hq := fun W => in_neq10 x y b W
       generalize hzz : En.zero ⟨x, y, b⟩ = z at hq hnext hbad
       obtain ⟨pk, hpk⟩ : ∃ pk, pk = t.r.peer k := ⟨_, rfl⟩
       rw [← hpk] at c0 hnext hbad
       have P5 := qh hB
       have L5 := qh hL
       have O5 := qh ((HR.out.below hB.below).wider hB.below.size)
       clear hp hpk hall hB hL hzz
       by_cases hp0 : pk < 0
       · cases z
         · have hn := qh (hbad.out hp0 rfl)
           clear hnext hbad
           go_wp2_with (first | ((with_reducible refine im_load_state rfl rfl ?_); apply LoadIm.mk rfl; (focus (with_reducible exact P5.out.st)); dsimp only) | ((with_reducible refine im_store_state rfl rfl ?_); apply StoreS.mk rfl rfl; (focus (with_reducible exact P5.out.out)); (focus (exact Im.zero_size)); (focus rfl)))
           refine bodyPost_ret (v := .tuple #[.agg (Im.cells s.g (.slice A s.g.shots.length c) s.r), .int .i64 1]) ?_ ?_ ?_
           · exact results_cell_tmp (p := 4) (q := 5) rfl _ _ _ _ (Im.cells s.g (.slice A s.g.shots.length c) s.r) _ rfl (Box.row P5.out.out _) Tryz.underlying40 rfl (by rw [Im.cells_size]; exact state_info)
           · rfl
           · exact .inr ⟨hn.out, A, c, rfl, O5.out.zero_row rfl P5.out.out _, Below.setRow' P5.out.below (by omega) _⟩
         · have hn := qh (hnext.out (fun _ => rfl))
           clear hnext hbad
           go_wp2
           go_roundw
           case rel => exact ⟨k + 1, by omega, by go_num, P5.out, L5.out, hn.out⟩
           case measure => simp [intOf]; omega
       · have hn := qh (hnext.out (fun h => absurd h hp0))
         clear hnext hbad
         go_wp2
         go_roundw
         case rel => exact ⟨k + 1, by omega, by go_num, P5.out, L5.out, hn.out⟩
         case measure => simp [intOf]; omega
     · have hk8 : ¬ (k : Int) < 8 := by omega
       obtain rfl : k = 8 := by omega
       have HD := qh (Fd.apply_done HM.out HC.out hall)
       have hstep := fun X hX => qh (refstep_yes e.inp t.g A' t.g.shots.length c' X HT.out.1.ok.1 (by have := HT.out.2; have := HM.out.2.1.frame; have := HM.out.2.2; omega) HT.out.1.dice hin rfl hX)
       have P6 := qh hB
       have L6 := qh hL
       generalize hG : Gm.step e.inp t.g = G at hstep HD
       clear hall hB hL hG
       go_upto_region 25 with (first | ((with_reducible refine im_load_game rfl rfl ?_); apply LoadIm.mk rfl; (focus (with_reducible exact P6.out.nx)); dsimp only) | ((with_reducible refine en_load_ins rfl rfl ?_); apply LoadEn.mk rfl; (focus (with_reducible exact P6.out.en)); dsimp only) | (go_at_call 38; ((with_reducible refine ((hstep _ L6.out).out).mono ?_); rintro x w7 ⟨A7, c7, rfl, hL, hb⟩; have P7 := qh ((P6.out.call hb).alloc (.cells (Gm.cells G (.slice A7 G.shots.length c7)) 33)); have L7 := qh (hL.call (one_below w7 (.cells (Gm.cells G (.slice A7 G.shots.length c7)) 33))); have G7 := qh (Box.made w7 33 (Gm.cells G (.slice A7 G.shots.length c7))); have P9 := qh (P7.out.store (g' := G) (s' := .slice A7 G.shots.length c7) (r' := t.r)); have L9 := qh (L7.out.state_row rfl P7.out.nx (Im.cells G (.slice A7 G.shots.length c7) t.r)); clear hb hL)) | (refine wpList_alloc_game rfl rfl ?_) | (refine wpList_store_game_new rfl rfl rfl rfl rfl rfl ?_))
       go_wp2_with (first | ((with_reducible refine load_gate rfl rfl ?_); apply LoadGame.mk rfl; (with_reducible exact G7.out)) | ((with_reducible refine im_store_game rfl rfl ?_); apply StoreG.mk rfl rfl; (focus (with_reducible exact P7.out.nx)); (focus rfl)) | ((with_reducible refine im_load_state rfl rfl ?_); apply LoadIm.mk rfl; (focus (with_reducible exact P9.out.nx)); dsimp only) | ((with_reducible refine im_store_state rfl rfl ?_); apply StoreS.mk rfl rfl; (focus (with_reducible exact P9.out.out)); (focus (exact Im.zero_size)); (focus rfl)))
       refine bodyPost_ret (v := .tuple #[.agg (Im.cells G (.slice A7 G.shots.length c7) t.r), .int .i64 0]) ?_ ?_ ?_
       · exact results_cell_tmp (p := 4) (q := 5) rfl _ _ _ _ (Im.cells G (.slice A7 G.shots.length c7) t.r) _ rfl (Box.row P9.out.out _) Tryz.underlying40 rfl (by rw [Im.cells_size]; exact state_info)
       · rfl
       · exact .inl ⟨_, HD.out, A7, c7, rfl, L9.out.zero_row rfl P9.out.out _, Below.setRow' P9.out.below (by omega) _⟩
theorem refapply_none (s : Fd.S) (e : En.E) (A A2 : Option Addr) (n c m c2 : Nat) (w : World) (hty : Gm.ty s.g) (hn63 : n ≤ maxLen) (hn : n = s.g.shots.length) (hr : Lies w w.heap.size 6 A n (Gm.shotCells s.g.shots)) (hm : m = e.evs.length) (hm63 : m ≤ maxLen) (hE : Lies w w.heap.size 4 A2 m (En.evCells e.evs)) (hin : ∀ i, i < 8 → Gm.tyIn (e.inp i)) (h : Fd.apply s e = none) :
 Calls Tryz.prog 9 #[.agg (Im.cells s.g (.slice A n c) s.r), .agg (En.cells e (.slice A2 m c2))] w (SOut s.g s.r 1 w) := by
 by_cases hmay : Fd.May s e
 · exact (refapply_go s e A A2 n c m c2 w hty hn63 hn hr hm hm63 hE hin hmay).mono fun r w' hB => refbehind_not h hB
 · exact refapply_may s e A A2 n c m c2 w hty hn63 hn hr hm hm63 hE hin hmay
open Go Go.RowKit Go.Shelf
def SOutT (g' : Gm.G) (r' : Ros.R) (code : Int) (w : World) (e : Ending) (w' : World) : Prop :=
 ∃ A c, e = .returned (.tuple #[.agg (Im.cells g' (.slice A g'.shots.length c) r'), .int .i64 code]) ∧ Lies w' w'.heap.size 6 A g'.shots.length (Gm.shotCells g'.shots) ∧ Typed w' 72 A ∧ Below w.heap.size w w'
def RefBehindT (s : Fd.S) (e : En.E) (w : World) (r : Ending) (w' : World) : Prop :=
 (∃ u, Fd.apply s e = some u ∧ SOutT u.g u.r 0 w r w') ∨ (Fd.apply s e = none ∧ SOut s.g s.r 1 w r w')
theorem refbehindt_is {s u : Fd.S} {e : En.E} {w w' : World} {r : Ending} (h : Fd.apply s e = some u) (hB : RefBehindT s e w r w') : SOutT u.g u.r 0 w r w' := by
 unfold RefBehindT at hB
 rw [h] at hB
 rcases hB with ⟨v, hv, h2⟩ | ⟨hno, _⟩
 · obtain rfl : u = v := Option.some.inj hv
   exact h2
 · cases hno
theorem refapply_own_go (s : Fd.S) (e : En.E) (A A2 : Option Addr) (n c m c2 : Nat) (w : World) (hty : Gm.ty s.g) (hn63 : n ≤ maxLen) (hn : n = s.g.shots.length) (hr : Lies w w.heap.size 6 A n (Gm.shotCells s.g.shots)) (hm : m = e.evs.length) (hm63 : m ≤ maxLen) (hE : Lies w w.heap.size 4 A2 m (En.evCells e.evs)) (hin : ∀ i, i < 8 → Gm.tyIn (e.inp i)) (hmay : Fd.May s e) :
 Calls Tryz.prog 9 #[.agg (Im.cells s.g (.slice A n c) s.r), .agg (En.cells e (.slice A2 m c2))] w (RefBehindT s e w) := by
 have B0 := qh (bh_start w s.g (.slice A n c) s.r e (.slice A2 m c2))
 have L0 := qh ((hr.below B0.out.below).wider B0.out.below.size)
 have E0 := qh ((hE.below B0.out.below).wider B0.out.below.size)
 have cm := qh (refstate_any s.g s.r A n c _ hty hn hn63 L0.out)
 have ce := fun X hX => qh (refmayen_any e A2 m c2 X hm hm63 hin hX)
 have hfine : Fd.Fine s := ⟨hmay.1, hty.2.1⟩
 have HF := qh hfine
 have HM := qh hmay
 have HE := qh hE
 have HR := qh hr
 have hN := qh hn
 have hMN := qh hm
 have m63 : (m : Int) ≤ 9223372036854775807 := by unfold maxLen at hm63; omega
 have hfr : (e.frame != s.g.frame) = false := by simpa using hmay.2.2
 simp only [decide_eq_true hmay.2.1] at ce
 have hs0 : (Im.cells s.g (.slice A n c) s.r)[0]? = some (.int .i64 s.g.frame) := (Im.cells_g _ _ _ 0 (by omega)).trans (Gm.cells_0 _ _)
 have he0 := En.cells_0 e (.slice A2 m c2)
 clear hmay hr hn hm hm63 hE hty hfine
 go_enter Tryz.func9, Tryz.ntmps9
 go_upto_region 4 with (first | (with_reducible refine alloc_state rfl rfl ?_) | ((with_reducible refine im_load_state rfl rfl ?_); apply LoadIm.mk rfl; (focus first | (with_reducible exact B0.out.st) | (with_reducible exact B2.out.st)); dsimp only) | (go_at_call 34; ((with_reducible refine ((cm).out).mono ?_); rintro x w1 ⟨⟨v, rfl, hv⟩, hb⟩; obtain rfl : v = true := hv.2 HM.out.1; have B1 := qh (B0.out.call hb); have E1 := qh ((E0.out.below hb).wider hb.size); have L1 := qh (L0.out.call hb); clear hb hv)) | ((with_reducible refine en_load_g ?_ rfl ?_); (focus first | rfl | (simp [Region.wanted, yielded]; done)); apply LoadEn.mk rfl; (focus (with_reducible exact B1.out.en)); dsimp only) | (go_at_call 35; ((with_reducible refine ((ce _ E1.out).out).mono ?_); rintro x w2 ⟨rfl, hb⟩; have B2 := qh (B1.out.call hb); have k2s := B2.out.st.cell 0; have k2e := B2.out.en.cell 0; have P2 := qh (show Pa w s.g (.slice A n c) s.r e (.slice A2 m c2) w2.heap.size s.g (.slice A n c) s.r (w2.alloc (.cells (Im.cells s.g (.slice A n c) s.r) 40)) from ⟨B2.out.st.alloc _, B2.out.en.alloc _, B2.out.out.alloc _, Box.made _ _ _, B2.out.out.lt, B2.out.below.alloc B2.out.below.size _⟩); have L2 := qh ((L1.out.call hb).call (one_below w2 (.cells (Im.cells s.g (.slice A n c) s.r) 40))); clear hb)) | (with_reducible refine im_store_new rfl rfl rfl rfl Im.zero_size rfl ?_))
 clear B0 L0 E0 cm ce B1 E1 L1 B2 k2s k2e hs0 he0 hfr
 have hn := hN.out
 subst hn
 generalize hW2 : w2.alloc (.cells (Im.cells s.g (.slice A s.g.shots.length c) s.r) 40) = W2 at P2 L2 ⊢
 generalize w2.heap.size = Bn at P2 ⊢
 clear hW2
 go_wp2
 go_loopw [7] (fun i wr => ∃ (k : Nat) (t : Fd.S) (A' : Option Addr) (c' : Nat), k ≤ m ∧ i = .int .i64 k ∧ Fd.changes s (e.evs.take k) = some t ∧ Pa w s.g (.slice A s.g.shots.length c) s.r e (.slice A2 m c2) Bn t.g (.slice A' t.g.shots.length c') t.r wr ∧ Lies wr wr.heap.size 6 A' t.g.shots.length (Gm.shotCells t.g.shots)) (fun i _ => m - (intOf i).toNat)
 case atStart => exact ⟨0, s, A, c, Nat.zero_le _, rfl, rfl, P2.out, L2.out⟩
 case round =>
  obtain ⟨k, t, A', c', hk, rfl, hch, hB, hL⟩ := hrel
  clear P2 L2
  have en1 := (hB.en.cell 1).trans (En.cells_1 e (.slice A2 m c2))
  by_cases hlt : k < m
  · have hk8 : (k : Int) < m := by omega
    have hkl : k < e.evs.length := by have := hMN.out; omega
    obtain ⟨ad, rfl, hbl, e0, e1, e2, e3⟩ := evs_at (HE.out.below hB.below) hMN.out k hkl
    have hok := En.row_mem e.evs (-1) HM.out.2.1.row e.evs[k] (List.getElem_mem hkl)
    have hft := (HF.out.changes hch).1
    have hgo := qh (fun hv : Fd.MayEv t e.evs[k] => Fd.changes_go hkl hch hv)
    have hst := qh (fun hv : ¬ Fd.MayEv t e.evs[k] => Fd.apply_stop HM.out (Fd.changes_stop hkl hch hv))
    have cy' := fun X (hv : Fd.MayEv t e.evs[k]) => qh (refevent_yes t e.evs[k] X hv)
    have cn' := fun X (hv : ¬ Fd.MayEv t e.evs[k]) => qh (refevent_no t e.evs[k] X hok hv)
    have HFT := qh hft
    generalize hv : e.evs[k] = v at e0 e1 e2 e3 hgo hst cy' cn' hok
    have sz := hB.below.size
    have ltA : ad.block < wr.heap.size := by omega
    have ltP : Bn < wr.heap.size := hB.nx.lt
    have P4 := fun o => qh (hB.alloc o)
    have L4 := fun o => qh (hL.call (one_below wr o))
    have V4 := qh (Box.made wr 79 #[.int .i64 v.kind, .int .i64 v.slot, .int .i64 v.gen, .int .i64 v.peer])
    have r0 := (HR.out.below hB.below)
    have L0 := qh r0
    clear r0
    by_cases hev : Fd.MayEv t v
    · have cs := fun X => cy' X hev
      have HG := qh (hgo.out hev)
      clear hgo hst cy' cn' hv hok hch hB hL hft
      rcases hev with ⟨hk1, ht, hg1⟩ | ⟨hk1, ht, hp1, hg1⟩
      · obtain ⟨j, hj8, ej, ej', hpj, ht', hp0⟩ := Fd.take_on ht
        have hau : Fd.after t v = ⟨Gm.spawn t.g j, Ros.take t.r j v.peer⟩ := by unfold Fd.after; rw [if_pos hk1, ej']
        have hoff : (t.g.ship j).on = false := (HFT.out.ok.2.2 j hj8).trans (decide_eq_false (by omega))
        have cg := fun X hX => qh (refspawn_out t.g A' t.g.shots.length c' j X HFT.out.ok.1 HFT.out.dice rfl hX hj8 hoff)
        rw [hau] at HG
        simp only [hau] at cs
        obtain ⟨vk, vs, vg, vp⟩ := v
        dsimp only at e0 e1 e2 e3 cs hk1 ej V4 HG
        subst hk1 ej
        clear ht ht' hg1 hpj hp0 hau hoff ej'
        generalize hRR : Ros.take t.r j vp = RR at cs HG
        generalize hGG : Gm.spawn t.g j = GG at cg HG
        clear hRR hGG
        go_upto_region 12 with (first | ((with_reducible refine row_load rfl rfl Tryz.underlying79 rfl ?_); apply LoadRow.mk rfl; (focus (with_reducible exact V4.out)); (focus (exact ev4_size))) | ((with_reducible refine im_load_ros rfl rfl ?_); apply LoadIm.mk rfl; (focus (with_reducible exact (P4 _).out.nx)); dsimp only) | (go_at_call 31; ((with_reducible refine ((cs _).out).mono ?_); rintro x w5 ⟨rfl, hb⟩; have P5 := qh (((P4 _).out.call hb).alloc (.cells (Ros.cells RR) 38)); have V5 := qh ((V4.out.below hb V4.out.lt).alloc (.cells (Ros.cells RR) 38)); have R5 := qh (Box.made w5 38 (Ros.cells RR)); have L5 := qh (((L4 _).out.call hb).call (one_below w5 (.cells (Ros.cells RR) 38))); have P6 := qh (P5.out.store (g' := t.g) (s' := .slice A' t.g.shots.length c') (r' := RR)); have V6 := qh (V5.out.row_far (Box.apart V5.out P5.out.nx (by decide)) (Im.cells t.g (.slice A' t.g.shots.length c') RR)); have L6 := qh (L5.out.state_row rfl P5.out.nx (Im.cells t.g (.slice A' t.g.shots.length c') RR)); clear hb)) | (with_reducible refine ros_alloc rfl rfl ?_) | ((with_reducible refine ros_store_new rfl rfl rfl rfl rfl ?_)) | ((with_reducible refine ros_load rfl rfl ?_); apply LoadRow.mk rfl; (focus (with_reducible exact R5.out)); (focus (exact ros_info))) | ((with_reducible refine im_store_ros rfl rfl ?_); apply StoreR.mk rfl rfl; (focus (with_reducible exact P5.out.nx))))
        generalize hW6 : (w5.alloc (.cells (Ros.cells RR) 38)).setRow Bn (Im.cells t.g (.slice A' t.g.shots.length c') RR) = W6 at P6 V6 L6 ⊢
        clear hW6 P5 V5 L5 R5 P4 V4 L4 cs e0 e1 e2 e3
        have P7 := qh (P6.out.alloc (.cells (Gm.cells t.g (.slice A' t.g.shots.length c')) 33))
        have V7 := qh (V6.out.alloc (.cells (Gm.cells t.g (.slice A' t.g.shots.length c')) 33))
        have L7 := qh (L6.out.call (one_below W6 (.cells (Gm.cells t.g (.slice A' t.g.shots.length c')) 33)))
        have G7 := qh (Box.made W6 33 (Gm.cells t.g (.slice A' t.g.shots.length c')))
        have z7 := qh P6.out.below.size
        go_upto_region 13 with (first | ((with_reducible refine im_load_game rfl rfl ?_); apply LoadIm.mk rfl; (focus (with_reducible exact P6.out.nx)); dsimp only) | (refine wpList_alloc_game rfl rfl ?_) | (refine wpList_store_game_new rfl rfl rfl rfl rfl rfl ?_))
        try simp only [World.size_alloc]
        generalize hW7 : W6.alloc (.cells (Gm.cells t.g (.slice A' t.g.shots.length c')) 33) = W7 at P7 V7 L7 G7 ⊢
        generalize W6.heap.size = bg at G7 z7 ⊢
        clear hW7 P6 V6 L6
        have v7 := V7.out.cell
        go_upto_region 16 with (first | ((with_reducible refine load_gate rfl rfl ?_); apply LoadGame.mk rfl; (with_reducible exact G7.out)) | (go_at_call 37; ((with_reducible refine ((cg _ L7.out).out).mono ?_); rintro x w8 ⟨A8, c8, rfl, hL8, hb⟩; have P8 := qh (P7.out.call hb); have G8 := qh (G7.out.below hb G7.out.lt); have L8 := qh hL8; clear hb hL8)) | ((with_reducible refine store_gate rfl rfl ?_); apply StoreGame.mk rfl rfl rfl; (with_reducible exact G8.out)))
        have P9 := qh (P8.out.game (cs := Gm.cells GG (.slice A8 GG.shots.length c8)) G8.out z7.out)
        have G9 := qh (G8.out.row (Gm.cells GG (.slice A8 GG.shots.length c8)))
        have L9 := qh (L8.out.game_row rfl G8.out (Gm.cells GG (.slice A8 GG.shots.length c8)))
        try simp only [World.size_alloc]
        generalize hW9 : w8.setRow bg (Gm.cells GG (.slice A8 GG.shots.length c8)) = W9 at P9 G9 L9 ⊢
        clear hW9 P8 G8 L8 P7 V7 L7 G7 v7 cg
        have P10 := qh (P9.out.store (g' := GG) (s' := .slice A8 GG.shots.length c8) (r' := RR))
        have L10 := qh (L9.out.state_row rfl P9.out.nx (Im.cells GG (.slice A8 GG.shots.length c8) RR))
        go_wp2_with (first | ((with_reducible refine load_gate rfl rfl ?_); apply LoadGame.mk rfl; (with_reducible exact G9.out)) | ((with_reducible refine im_store_game rfl rfl ?_); apply StoreG.mk rfl rfl; (focus (with_reducible exact P9.out.nx)); (focus rfl)))
        go_roundw
        case rel => exact ⟨k + 1, ⟨GG, RR⟩, A8, c8, by omega, by go_num, HG.out, P10.out, L10.out⟩
        case measure => simp [intOf]; omega
      · obtain ⟨j, hj8, ej, ej', hpj, ht'⟩ := Fd.give_on ht
        have hau : Fd.after t v = ⟨Gm.remove t.g j, Ros.give t.r j⟩ := by unfold Fd.after; rw [if_neg (by omega), ej']
        have hon : (t.g.ship j).on = true := (HFT.out.ok.2.2 j hj8).trans (decide_eq_true hpj)
        have cg := fun X hX => qh (refremove_yes t.g A' t.g.shots.length c' j X HFT.out.ok.1 rfl hX hj8 hon)
        rw [hau] at HG
        simp only [hau] at cs
        obtain ⟨vk, vs, vg, vp⟩ := v
        dsimp only at e0 e1 e2 e3 cs hk1 ej V4 HG
        subst hk1 ej
        clear ht ht' hg1 hpj hp1 hau hon ej'
        generalize hRR : Ros.give t.r j = RR at cs HG
        generalize hGG : Gm.remove t.g j = GG at cg HG
        clear hRR hGG
        go_upto_region 12 with (first | ((with_reducible refine row_load rfl rfl Tryz.underlying79 rfl ?_); apply LoadRow.mk rfl; (focus (with_reducible exact V4.out)); (focus (exact ev4_size))) | ((with_reducible refine im_load_ros rfl rfl ?_); apply LoadIm.mk rfl; (focus (with_reducible exact (P4 _).out.nx)); dsimp only) | (go_at_call 31; ((with_reducible refine ((cs _).out).mono ?_); rintro x w5 ⟨rfl, hb⟩; have P5 := qh (((P4 _).out.call hb).alloc (.cells (Ros.cells RR) 38)); have V5 := qh ((V4.out.below hb V4.out.lt).alloc (.cells (Ros.cells RR) 38)); have R5 := qh (Box.made w5 38 (Ros.cells RR)); have L5 := qh (((L4 _).out.call hb).call (one_below w5 (.cells (Ros.cells RR) 38))); have P6 := qh (P5.out.store (g' := t.g) (s' := .slice A' t.g.shots.length c') (r' := RR)); have V6 := qh (V5.out.row_far (Box.apart V5.out P5.out.nx (by decide)) (Im.cells t.g (.slice A' t.g.shots.length c') RR)); have L6 := qh (L5.out.state_row rfl P5.out.nx (Im.cells t.g (.slice A' t.g.shots.length c') RR)); clear hb)) | (with_reducible refine ros_alloc rfl rfl ?_) | ((with_reducible refine ros_store_new rfl rfl rfl rfl rfl ?_)) | ((with_reducible refine ros_load rfl rfl ?_); apply LoadRow.mk rfl; (focus (with_reducible exact R5.out)); (focus (exact ros_info))) | ((with_reducible refine im_store_ros rfl rfl ?_); apply StoreR.mk rfl rfl; (focus (with_reducible exact P5.out.nx))))
        generalize hW6 : (w5.alloc (.cells (Ros.cells RR) 38)).setRow Bn (Im.cells t.g (.slice A' t.g.shots.length c') RR) = W6 at P6 V6 L6 ⊢
        clear hW6 P5 V5 L5 R5 P4 V4 L4 cs e0 e1 e2 e3
        have P7 := qh (P6.out.alloc (.cells (Gm.cells t.g (.slice A' t.g.shots.length c')) 33))
        have V7 := qh (V6.out.alloc (.cells (Gm.cells t.g (.slice A' t.g.shots.length c')) 33))
        have L7 := qh (L6.out.call (one_below W6 (.cells (Gm.cells t.g (.slice A' t.g.shots.length c')) 33)))
        have G7 := qh (Box.made W6 33 (Gm.cells t.g (.slice A' t.g.shots.length c')))
        have z7 := qh P6.out.below.size
        go_upto_region 13 with (first | ((with_reducible refine im_load_game rfl rfl ?_); apply LoadIm.mk rfl; (focus (with_reducible exact P6.out.nx)); dsimp only) | (refine wpList_alloc_game rfl rfl ?_) | (refine wpList_store_game_new rfl rfl rfl rfl rfl rfl ?_))
        try simp only [World.size_alloc]
        generalize hW7 : W6.alloc (.cells (Gm.cells t.g (.slice A' t.g.shots.length c')) 33) = W7 at P7 V7 L7 G7 ⊢
        generalize W6.heap.size = bg at G7 z7 ⊢
        clear hW7 P6 V6 L6
        have v7 := V7.out.cell
        go_upto_region 16 with (first | ((with_reducible refine load_gate rfl rfl ?_); apply LoadGame.mk rfl; (with_reducible exact G7.out)) | (go_at_call 36; ((with_reducible refine ((cg _ L7.out).out).mono ?_); rintro x w8 ⟨A8, c8, rfl, hL8, hb⟩; have P8 := qh (P7.out.call hb); have G8 := qh (G7.out.below hb G7.out.lt); have L8 := qh hL8; clear hb hL8)) | ((with_reducible refine store_gate rfl rfl ?_); apply StoreGame.mk rfl rfl rfl; (with_reducible exact G8.out)))
        have P9 := qh (P8.out.game (cs := Gm.cells GG (.slice A8 GG.shots.length c8)) G8.out z7.out)
        have G9 := qh (G8.out.row (Gm.cells GG (.slice A8 GG.shots.length c8)))
        have L9 := qh (L8.out.game_row rfl G8.out (Gm.cells GG (.slice A8 GG.shots.length c8)))
        try simp only [World.size_alloc]
        generalize hW9 : w8.setRow bg (Gm.cells GG (.slice A8 GG.shots.length c8)) = W9 at P9 G9 L9 ⊢
        clear hW9 P8 G8 L8 P7 V7 L7 G7 v7 cg
        have P10 := qh (P9.out.store (g' := GG) (s' := .slice A8 GG.shots.length c8) (r' := RR))
        have L10 := qh (L9.out.state_row rfl P9.out.nx (Im.cells GG (.slice A8 GG.shots.length c8) RR))
        go_wp2_with (first | ((with_reducible refine load_gate rfl rfl ?_); apply LoadGame.mk rfl; (with_reducible exact G9.out)) | ((with_reducible refine im_store_game rfl rfl ?_); apply StoreG.mk rfl rfl; (focus (with_reducible exact P9.out.nx)); (focus rfl)))
        go_roundw
        case rel => exact ⟨k + 1, ⟨GG, RR⟩, A8, c8, by omega, by go_num, HG.out, P10.out, L10.out⟩
        case measure => simp [intOf]; omega
    · have cs := fun X => cn' X hev
      have HG := qh (hst.out hev)
      obtain ⟨vk, vs, vg, vp⟩ := v
      dsimp only at e0 e1 e2 e3 cs V4
      clear hgo hst cy' cn' hv hev hok hch hB hL hft
      go_wp2_with (first | ((with_reducible refine row_load rfl rfl Tryz.underlying79 rfl ?_); apply LoadRow.mk rfl; (focus (with_reducible exact V4.out)); (focus (exact ev4_size))) | ((with_reducible refine im_load_ros rfl rfl ?_); apply LoadIm.mk rfl; (focus (with_reducible exact (P4 _).out.nx)); dsimp only) | (go_at_call 31; ((with_reducible refine ((cs _).out).mono ?_); rintro x w5 ⟨rfl, hb⟩; have P5 := qh (((P4 _).out.call hb).alloc (.cells (Ros.cells t.r) 38)); have L5 := qh (((L0.out.below ((one_below wr _).mono sz)).below (hb.mono (Nat.le_trans sz (one_below wr _).size))).below ((one_below w5 (.cells (Ros.cells t.r) 38)).mono (Nat.le_trans (Nat.le_trans sz (one_below wr _).size) hb.size))); clear hb)) | (with_reducible refine ros_alloc rfl rfl ?_) | ((with_reducible refine ros_store_new rfl rfl rfl rfl rfl ?_)) | ((with_reducible refine im_load_state rfl rfl ?_); apply LoadIm.mk rfl; (focus (with_reducible exact P5.out.st)); dsimp only) | ((with_reducible refine im_store_state rfl rfl ?_); apply StoreS.mk rfl rfl; (focus (with_reducible exact P5.out.out)); (focus (exact Im.zero_size)); (focus rfl)))
      refine bodyPost_ret (v := .tuple #[.agg (Im.cells s.g (.slice A s.g.shots.length c) s.r), .int .i64 1]) ?_ ?_ ?_
      · exact results_cell_tmp (p := 4) (q := 5) rfl _ _ _ _ (Im.cells s.g (.slice A s.g.shots.length c) s.r) _ rfl (Box.row P5.out.out _) Tryz.underlying40 rfl (by rw [Im.cells_size]; exact state_info)
      · rfl
      · exact .inr ⟨HG.out, A, c, rfl, (L5.out.wider P5.out.below.size).zero_row rfl P5.out.out _, Below.setRow' P5.out.below (by omega) _⟩
  · have hk8 : ¬ (k : Int) < m := by omega
    obtain rfl : k = m := by omega
    obtain ⟨k0, hk0⟩ : ∃ k0, k0 = k := ⟨_, rfl⟩
    rw [hMN.out, List.take_length] at hch
    have HC := qh hch
    rw [← hk0] at hB
    have P3 := qh hB
    have L3 := qh hL
    have HT := qh (HF.out.changes hch)
    clear hch hB hL
    go_wp2
    go_loopw [13] (fun i wr => ∃ k : Nat, k ≤ 8 ∧ i = .int .i64 k ∧ Pa w s.g (.slice A s.g.shots.length c) s.r e (.slice A2 k0 c2) Bn t.g (.slice A' t.g.shots.length c') t.r wr ∧ Lies wr wr.heap.size 6 A' t.g.shots.length (Gm.shotCells t.g.shots) ∧ ∀ j, j < k → t.r.peer j < 0 → En.zero (e.inp j) = true) (fun i _ => 8 - (intOf i).toNat)
    case atStart => exact ⟨0, by omega, rfl, P3.out, L3.out, fun j hj => absurd hj (Nat.not_lt_zero j)⟩
    case round =>
     obtain ⟨k, hk, rfl, hB, hL, hall⟩ := hrel
     clear P3 L3 en1
     by_cases hlt : k < 8
     · have hk8 : (k : Int) < 8 := by omega
       have c0 := (hB.nx.cell (60 + k * 2)).trans (Im.cells_peer t.g _ t.r k hlt)
       have i0 := (hB.en.cell (2 + k * 3)).trans (En.cells_in e _ k 0 hlt (by omega))
       have i1 := (hB.en.cell (2 + k * 3 + 1)).trans (En.cells_in e _ k 1 hlt (by omega))
       have i2 := (hB.en.cell (2 + k * 3 + 2)).trans (En.cells_in e _ k 2 hlt (by omega))
       have hnext := qh (fun (h : t.r.peer k < 0 → En.zero (e.inp k) = true) => show ∀ j, j < k + 1 → t.r.peer j < 0 → En.zero (e.inp j) = true from fun j hj => by
        by_cases ej : j = k
        · rw [ej]; exact h
        · exact hall j (by omega))
       have hbad := qh (fun (h : t.r.peer k < 0) (h' : En.zero (e.inp k) = false) => Fd.apply_idle HM.out HC.out (fun hi => by have := hi k hlt h; rw [h'] at this; cases this))
       obtain ⟨p, hp⟩ : ∃ p, p = e.inp k := ⟨_, rfl⟩
       rw [← hp] at i0 i1 i2 hnext hbad
       obtain ⟨x, y, b⟩ := p
       simp only [Gm.In.cells, List.getElem?_cons_zero, List.getElem?_cons_succ, Nat.add_zero] at i0 i1 i2
       have hq := fun W => in_neq10 x y b W
       generalize hzz : En.zero ⟨x, y, b⟩ = z at hq hnext hbad
       obtain ⟨pk, hpk⟩ : ∃ pk, pk = t.r.peer k := ⟨_, rfl⟩
       rw [← hpk] at c0 hnext hbad
       have P5 := qh hB
       have L5 := qh hL
       have O5 := qh ((HR.out.below hB.below).wider hB.below.size)
       clear hp hpk hall hB hL hzz
       by_cases hp0 : pk < 0
       · cases z
         · have hn := qh (hbad.out hp0 rfl)
           clear hnext hbad
           go_wp2_with (first | ((with_reducible refine im_load_state rfl rfl ?_); apply LoadIm.mk rfl; (focus (with_reducible exact P5.out.st)); dsimp only) | ((with_reducible refine im_store_state rfl rfl ?_); apply StoreS.mk rfl rfl; (focus (with_reducible exact P5.out.out)); (focus (exact Im.zero_size)); (focus rfl)))
           refine bodyPost_ret (v := .tuple #[.agg (Im.cells s.g (.slice A s.g.shots.length c) s.r), .int .i64 1]) ?_ ?_ ?_
           · exact results_cell_tmp (p := 4) (q := 5) rfl _ _ _ _ (Im.cells s.g (.slice A s.g.shots.length c) s.r) _ rfl (Box.row P5.out.out _) Tryz.underlying40 rfl (by rw [Im.cells_size]; exact state_info)
           · rfl
           · exact .inr ⟨hn.out, A, c, rfl, O5.out.zero_row rfl P5.out.out _, Below.setRow' P5.out.below (by omega) _⟩
         · have hn := qh (hnext.out (fun _ => rfl))
           clear hnext hbad
           go_wp2
           go_roundw
           case rel => exact ⟨k + 1, by omega, by go_num, P5.out, L5.out, hn.out⟩
           case measure => simp [intOf]; omega
       · have hn := qh (hnext.out (fun h => absurd h hp0))
         clear hnext hbad
         go_wp2
         go_roundw
         case rel => exact ⟨k + 1, by omega, by go_num, P5.out, L5.out, hn.out⟩
         case measure => simp [intOf]; omega
     · have hk8 : ¬ (k : Int) < 8 := by omega
       obtain rfl : k = 8 := by omega
       have HD := qh (Fd.apply_done HM.out HC.out hall)
       have hstep := fun X hX => qh (refstep_own e.inp t.g A' t.g.shots.length c' X HT.out.1.ok.1 (by have := HT.out.2; have := HM.out.2.1.frame; have := HM.out.2.2; omega) HT.out.1.dice hin rfl hX)
       have P6 := qh hB
       have L6 := qh hL
       generalize hG : Gm.step e.inp t.g = G at hstep HD
       clear hall hB hL hG
       go_upto_region 25 with (first | ((with_reducible refine im_load_game rfl rfl ?_); apply LoadIm.mk rfl; (focus (with_reducible exact P6.out.nx)); dsimp only) | ((with_reducible refine en_load_ins rfl rfl ?_); apply LoadEn.mk rfl; (focus (with_reducible exact P6.out.en)); dsimp only) | (go_at_call 38; ((with_reducible refine ((hstep _ L6.out).out).mono ?_); rintro x w7 ⟨A7, c7, rfl, hL, hT, hb⟩; have P7 := qh ((P6.out.call hb).alloc (.cells (Gm.cells G (.slice A7 G.shots.length c7)) 33)); have L7 := qh (hL.call (one_below w7 (.cells (Gm.cells G (.slice A7 G.shots.length c7)) 33))); have T9 := qh ((hT.call (one_below w7 (.cells (Gm.cells G (.slice A7 G.shots.length c7)) 33))).row P7.out.nx (Im.cells G (.slice A7 G.shots.length c7) t.r)); have G7 := qh (Box.made w7 33 (Gm.cells G (.slice A7 G.shots.length c7))); have P9 := qh (P7.out.store (g' := G) (s' := .slice A7 G.shots.length c7) (r' := t.r)); have L9 := qh (L7.out.state_row rfl P7.out.nx (Im.cells G (.slice A7 G.shots.length c7) t.r)); clear hb hL hT)) | (refine wpList_alloc_game rfl rfl ?_) | (refine wpList_store_game_new rfl rfl rfl rfl rfl rfl ?_))
       go_wp2_with (first | ((with_reducible refine load_gate rfl rfl ?_); apply LoadGame.mk rfl; (with_reducible exact G7.out)) | ((with_reducible refine im_store_game rfl rfl ?_); apply StoreG.mk rfl rfl; (focus (with_reducible exact P7.out.nx)); (focus rfl)) | ((with_reducible refine im_load_state rfl rfl ?_); apply LoadIm.mk rfl; (focus (with_reducible exact P9.out.nx)); dsimp only) | ((with_reducible refine im_store_state rfl rfl ?_); apply StoreS.mk rfl rfl; (focus (with_reducible exact P9.out.out)); (focus (exact Im.zero_size)); (focus rfl)))
       refine bodyPost_ret (v := .tuple #[.agg (Im.cells G (.slice A7 G.shots.length c7) t.r), .int .i64 0]) ?_ ?_ ?_
       · exact results_cell_tmp (p := 4) (q := 5) rfl _ _ _ _ (Im.cells G (.slice A7 G.shots.length c7) t.r) _ rfl (Box.row P9.out.out _) Tryz.underlying40 rfl (by rw [Im.cells_size]; exact state_info)
       · rfl
       · exact .inl ⟨_, HD.out, A7, c7, rfl, L9.out.zero_row rfl P9.out.out _, T9.out.row P9.out.out _, Below.setRow' P9.out.below (by omega) _⟩
theorem refapply_own (s u : Fd.S) (e : En.E) (A A2 : Option Addr) (n c m c2 : Nat) (w : World) (hty : Gm.ty s.g) (hn63 : n ≤ maxLen) (hn : n = s.g.shots.length) (hr : Lies w w.heap.size 6 A n (Gm.shotCells s.g.shots)) (hm : m = e.evs.length) (hm63 : m ≤ maxLen) (hE : Lies w w.heap.size 4 A2 m (En.evCells e.evs)) (hin : ∀ i, i < 8 → Gm.tyIn (e.inp i)) (h : Fd.apply s e = some u) :
 Calls Tryz.prog 9 #[.agg (Im.cells s.g (.slice A n c) s.r), .agg (En.cells e (.slice A2 m c2))] w (SOutT u.g u.r 0 w) :=
 (refapply_own_go s e A A2 n c m c2 w hty hn63 hn hr hm hm63 hE hin (Fd.apply_some h).1).mono fun r w' hB => refbehindt_is h hB
structure LT (w : World) (t : TypeId) (size : Nat) (A : Option Addr) (n : Nat) (xs : List Value) : Prop where
 lies : Lies w w.heap.size size A n xs
 typed : Typed w t A
section
variable {w w' : World} {t : TypeId} {size n : Nat} {A : Option Addr} {xs : List Value}
theorem LT.nil : LT w t size none 0 [] := ⟨⟨by simp, fun h => absurd rfl h, fun _ _ h => absurd rfl h⟩, Typed.none⟩
theorem LT.call (h : LT w t size A n xs) (hb : Below w.heap.size w w') : LT w' t size A n xs := ⟨h.lies.call hb, h.typed.call hb⟩
theorem LT.stays (h : LT w t size A n xs) (hs : w.heap.size ≤ w'.heap.size) (hk : ∀ ad, A = some ad → w'.heap[ad.block]? = w.heap[ad.block]?) : LT w' t size A n xs :=
 ⟨⟨h.lies.len, fun hn => by obtain ⟨ad, e, hb⟩ := h.lies.start hn; exact ⟨ad, e, Nat.lt_of_lt_of_le hb hs⟩, fun ad e hn j u hu => by
   rw [World.cell?_of_block (w := w) (by rw [add_block]; exact hk ad e)]
   exact h.lies.cell ad e hn j u hu⟩, ⟨fun ad e => by obtain ⟨cs, fz, h1⟩ := h.typed.is ad e; exact ⟨cs, fz, (hk ad e).trans h1⟩⟩⟩
theorem LT.row {B : Nat} {t' : TypeId} {old : Array Value} (h : LT w t size A n xs) (hB : Box w B t' old) (hne : t ≠ t') (cs : Array Value) : LT (w.setRow B cs) t size A n xs :=
 h.stays (by rw [setRow_size]; exact Nat.le_refl _) fun ad e => setRow_other w B _ cs fun eb => by
  obtain ⟨cs1, fz, h1⟩ := h.typed.is ad e
  rw [eb, hB.is] at h1
  injection h1 with h1
  injection h1 with _ ht _
  exact hne ht.symm
theorem LT.grown {base size' n' : Nat} {e : TypeId} {v : Value} {ys : List Value} (h : LT w t size A n xs) (ho : w.ownsRow base e size' v n' ys) (hne : t ≠ e) (hg : w.grownBy w' v.ownBlock) : LT w' t size A n xs :=
 h.stays hg.size fun ad ea => by
  obtain ⟨cs1, fz, h1⟩ := h.typed.is ad ea
  refine hg.block ad.block (Array.getElem?_eq_some_iff.1 h1).1 fun hr => ?_
  obtain ⟨_, ⟨rfl, _⟩ | ⟨g, cap, cur, rfl, _, hgg, _⟩⟩ := ho
  · cases hr
  · have e2 : ad.block = g := by injection hr
    rw [e2, hgg] at h1
    injection h1 with h1
    injection h1 with _ ht _
    exact hne ht.symm
theorem LT.boxed {S : Nat} (h : Box w S t xs.toArray) (hl : xs.length = n * size) : LT w t size (some ⟨S, 0, none⟩) n xs :=
 ⟨Lies.boxed4 h hl, ⟨fun ad e => by injection e with e; subst e; exact ⟨_, _, h.is⟩⟩⟩
end
section
variable {ops : Array Oper} {rest : List Oper} {o : Oper} {a : Act} {w : World} {Q : Exit → Act → World → Prop} {x : Operand}
def BuildEn1 (ops : Array Oper) (Q : Exit → Act → World → Prop) (rest : List Oper) (dst : Option Tmp) (v : Value) (a : Act) (w : World) : Prop :=
 ∃ q : En.S, v = .agg (En.cells q.e q.sl) ∧ wpList Tryz.prog ops Q rest (a.put dst (.slice (some ⟨w.heap.size, 0, none⟩) 1 1)) (w.alloc (.cells (En.sCells [q]).toArray 51))
theorem BuildEn1.mk {dst : Option Tmp} {v : Value} {q : En.S} (hv : v = .agg (En.cells q.e q.sl)) (h : wpList Tryz.prog ops Q rest (a.put dst (.slice (some ⟨w.heap.size, 0, none⟩) 1 1)) (w.alloc (.cells (En.sCells [q]).toArray 51))) : BuildEn1 ops Q rest dst v a w := ⟨q, hv, h⟩
theorem en_one_cells (q : En.S) : (En.sCells [q]).toArray = En.cells q.e q.sl := by
 unfold En.sCells
 rw [List.flatMap_cons, List.flatMap_nil, List.append_nil, En.S.cells_arr]
theorem en_fill1 (e : En.E) (A : Option Addr) (n c : Nat) : Instr.fill (fun i => some (i * 26, 26)) ((Array.range (1 * 26)).map ((Value.agg En.zeroC).cells[· % (Value.agg En.zeroC).cells.size]!)) [(0, .agg (En.cells e (.slice A n c)))] = some (En.cells e (.slice A n c)) := by kernel_rfl
theorem en_build1 (hgd : o.guard = none) (ho : o.op = .buildSlice 25 1 #[(0, x)]) (h : BuildEn1 ops Q rest o.dst (a.eval x) a w) : wpList Tryz.prog ops Q (o :: rest) a w := by
 obtain ⟨q, hv, h⟩ := h
 refine wpList_plain hgd fun _ hK => ?_
 have hr : (Instr.buildSlice 25 1 #[(0, .agg (En.cells q.e q.sl))]).run Tryz.prog w = .ok (.slice (some ⟨w.heap.size, 0, none⟩) 1 1) (w.alloc (.cells (En.sCells [q]).toArray 51)) := by
  have h1 := en_info
  have h2 := en_zero
  cases hq : Tryz.prog.info? 51 with
  | none => rw [hq] at h1; cases h1
  | some ie =>
   rw [hq] at h1 h2
   have hs : ie.size = 26 := by simpa using h1
   have hz : ie.zero = some (.agg En.zeroC) := by simpa using h2
   exact run_buildSlice w _ _ 1 _ _ ie (.agg En.zeroC) Tryz.underlying25 hq hz (by rw [hs]; decide) (by rw [hs]; decide) (by rw [hs, en_one_cells]; exact en_fill1 q.e q.adr q.e.evs.length q.cap)
 unfold Oper.wp execOp
 simp only [ho, List.map_toArray, List.map_cons, List.map_nil, hv, Sem.run_bind, hr, Result.andThen_ok, Sem.run_pure]
 exact hK _ _ h
end
theorem en_parts : ∃ i, Tryz.prog.info? 51 = some i ∧ i.zero = some (.agg En.zeroC) ∧ i.size = 26 ∧ i.bytes = 56 := by
 have h1 := en_info
 have h2 := en_zero
 have h3 : (Tryz.prog.info? 51).map (·.bytes) = some 56 := by kernel_rfl
 cases hq : Tryz.prog.info? 51 with
 | none => rw [hq] at h1; cases h1
 | some ie =>
  rw [hq] at h1 h2 h3
  exact ⟨ie, rfl, by simpa using h2, by simpa using h1, by simpa using h3⟩
theorem En.sCells_snoc (l : List En.S) (q : En.S) : En.sCells (l ++ [q]) = En.sCells l ++ En.sCells [q] := by unfold En.sCells; rw [List.flatMap_append]
structure Mk (w : World) (bs : Nat) (d : Int) (u : Fd.S) (A : Option Addr) (c : Nat) (AO : Option Addr) (cO : Nat) (out : List En.S) (W : World) : Prop where
 st : Box W bs 40 (Im.cells u.g (.slice A u.g.shots.length c) u.r)
 sh : LT W 72 6 A u.g.shots.length (Gm.shotCells u.g.shots)
 own : W.ownsRow w.heap.size 51 26 (.slice AO out.length cO) out.length (En.sCells out)
 ev : ∀ q ∈ out, LT W 79 4 q.adr q.e.evs.length (En.evCells q.e.evs)
 few : ∀ q ∈ out, q.e.evs.length ≤ maxLen
 ty : ∀ q ∈ out, ∀ i, i < 8 → Gm.tyIn (q.e.inp i)
 run : Fd.run (Fd.start d) (Fd.es out) = some u
 far : w.heap.size ≤ bs
 below : Below w.heap.size w W
section
variable {w W W' : World} {bs : Nat} {d : Int} {u v : Fd.S} {A A2 AO : Option Addr} {c c2 cO : Nat} {out : List En.S} {q : En.S}
theorem Mk.call (h : Mk w bs d u A c AO cO out W) (hb : Below W.heap.size W W') : Mk w bs d u A c AO cO out W' :=
 ⟨h.st.below hb h.st.lt, h.sh.call hb, own_below h.own hb (Nat.le_refl _), fun q hq => (h.ev q hq).call hb, h.few, h.ty, h.run, h.far, h.below.trans (hb.mono h.below.size)⟩
theorem Mk.lies (h : Mk w bs d u A c AO cO out W) : LiesS W W.heap.size AO out.length out := ⟨Lies.owned h.own, fun q hq => (h.ev q hq).lies, h.few⟩
theorem Mk.next (h : Mk w bs d u A c AO cO out W) (hv : Fd.apply u q.e = some v) (hL : LT W 72 6 A2 v.g.shots.length (Gm.shotCells v.g.shots)) (hE : LT W 79 4 q.adr q.e.evs.length (En.evCells q.e.evs)) (hf : q.e.evs.length ≤ maxLen) (ht : ∀ i, i < 8 → Gm.tyIn (q.e.inp i)) :
 ((W.setRow bs (Im.cells v.g (.slice A2 v.g.shots.length c2) v.r)).alloc (.cells (En.sCells [q]).toArray 51)).ownsRow w.heap.size 51 26 (.slice AO out.length cO) out.length (En.sCells out) ∧
 ∀ A' c' w', w'.ownsRow w.heap.size 51 26 (.slice A' (out.length + 1) c') (out.length + 1) (En.sCells out ++ En.sCells [q]) → ((W.setRow bs (Im.cells v.g (.slice A2 v.g.shots.length c2) v.r)).alloc (.cells (En.sCells [q]).toArray 51)).grownBy w' (Value.slice AO out.length cO).ownBlock →
  Mk w bs d v A2 c2 A' c' (out ++ [q]) w' := by
 obtain ⟨W1, hW1⟩ : ∃ W1, W1 = W.setRow bs (Im.cells v.g (.slice A2 v.g.shots.length c2) v.r) := ⟨_, rfl⟩
 rw [← hW1]
 have hB := h.st
 have b1 : Box W1 bs 40 (Im.cells v.g (.slice A2 v.g.shots.length c2) v.r) := by rw [hW1]; exact hB.row _
 have s1 : LT W1 72 6 A2 v.g.shots.length (Gm.shotCells v.g.shots) := by rw [hW1]; exact hL.row hB (by decide) _
 have e1 : ∀ q' ∈ out ++ [q], LT W1 79 4 q'.adr q'.e.evs.length (En.evCells q'.e.evs) := fun q' hq' => by
  rw [hW1]
  rcases List.mem_append.1 hq' with hq1 | hq1
  · exact (h.ev q' hq1).row hB (by decide) _
  · obtain rfl : q' = q := by simpa using hq1
    exact hE.row hB (by decide) _
 have o1 : W1.ownsRow w.heap.size 51 26 (.slice AO out.length cO) out.length (En.sCells out) := by
  rw [hW1]
  exact own_setRow h.own (hB.unowned h.own (by decide)) _
 have k1 : Below w.heap.size w W1 := by rw [hW1]; exact Below.setRow' h.below h.far _
 obtain ⟨X, hX⟩ : ∃ X, X = W1.alloc (.cells (En.sCells [q]).toArray 51) := ⟨_, rfl⟩
 rw [← hX]
 have hb : Below W1.heap.size W1 X := by rw [hX]; exact one_below _ _
 have o2 := own_below o1 hb (Nat.le_refl _)
 have b2 := b1.below hb b1.lt
 have k2 := k1.trans (hb.mono k1.size)
 refine ⟨o2, fun A' c' w' ho hg => ?_⟩
 have hlen : (out ++ [q]).length = out.length + 1 := by simp
 refine ⟨b2.grown hg (b2.unowned o2 (by decide)), (s1.call hb).grown o2 (by decide) hg, ?_, fun q' hq' => ((e1 q' hq').call hb).grown o2 (by decide) hg, fun q' hq' => ?_, fun q' hq' => ?_, ?_, h.far, ?_⟩
 · rw [hlen, En.sCells_snoc]; exact ho
 · rcases List.mem_append.1 hq' with hq1 | hq1
   · exact h.few q' hq1
   · obtain rfl : q' = q := by simpa using hq1
     exact hf
 · rcases List.mem_append.1 hq' with hq1 | hq1
   · exact h.ty q' hq1
   · obtain rfl : q' = q := by simpa using hq1
     exact ht
 · show Fd.run (Fd.start d) (Fd.es (out ++ [q])) = some v
   unfold Fd.es
   rw [List.map_append, List.map_cons, List.map_nil, Fd.run_append]
   have := h.run
   unfold Fd.es at this
   rw [this, Option.bind_some, Fd.run_one]
   exact hv
 · refine k2.grown hg k2.size fun k hk => ?_
   obtain ⟨_, ⟨e, _⟩ | ⟨g, cap, cur, e, hbg, _⟩⟩ := o2
   · rw [e] at hk; cases hk
   · rw [e] at hk
     injection hk with hk
     have : g = k := hk
     omega
end
namespace Fd
def freeK (r : Ros.R) : Nat → Int
 | 0 => -1
 | k + 1 => if r.peer k < 0 ∧ (freeK r k < 0 ∨ r.gen k < r.gen (freeK r k).toNat) then k else freeK r k
def freeV (r : Ros.R) : Int := if 0 ≤ freeK r 8 ∧ r.gen (freeK r 8).toNat = 60000 then -1 else freeK r 8
theorem freeK_is (r : Ros.R) (k : Nat) : freeK r k = -1 ∨ ∃ q : Nat, q < k ∧ freeK r k = q := by
 induction k with
 | zero => exact .inl rfl
 | succ k ih =>
  unfold freeK
  split
  · exact .inr ⟨k, Nat.lt_succ_self k, rfl⟩
  · rcases ih with h | ⟨q, hq, h⟩
    · exact .inl h
    · exact .inr ⟨q, by omega, h⟩
theorem freeV_is (r : Ros.R) : freeV r = -1 ∨ ∃ k : Nat, k < 8 ∧ freeV r = k ∧ r.gen k ≠ 60000 := by
 unfold freeV
 split
 · exact .inl rfl
 · rename_i h
   rcases freeK_is r 8 with h1 | ⟨q, hq, h1⟩
   · exact .inl h1
   · refine .inr ⟨q, hq, h1, fun hg => h ?_⟩
     rw [h1]
     exact ⟨by omega, hg⟩
theorem freeK_yes {r : Ros.R} {k : Nat} {v : Int} (hv : v = freeK r k) (hp : r.peer k < 0) (hg : v < 0 ∨ r.gen k < r.gen v.toNat) : (k : Int) = freeK r (k + 1) := by
 subst hv
 rw [freeK, if_pos ⟨hp, hg⟩]
theorem freeK_no {r : Ros.R} {k : Nat} {v : Int} (hv : v = freeK r k) (h : ¬ (r.peer k < 0 ∧ (v < 0 ∨ r.gen k < r.gen v.toNat))) : v = freeK r (k + 1) := by
 subst hv
 rw [freeK, if_neg h]
end Fd
theorem reffree_is (r : Ros.R) (w : World) (hok : Ros.Ok r) :
 Calls Tryz.prog 30 #[.agg (Ros.cells r)] w fun e w' => e = .returned (.int .i64 (Fd.freeV r)) ∧ Below w.heap.size w w' := by
 have P0 := qh (Box.made w 38 (Ros.cells r))
 have K0 := qh (one_below w (.cells (Ros.cells r) 38))
 have cm := fun X => qh (refros_may r X)
 have HOK := qh hok
 clear hok
 go_enter Tryz.func30, Tryz.ntmps30
 go_wp2
 go_loopw [3, 4] (fun b i wr => ∃ (k : Nat) (v : Int), k ≤ 8 ∧ i = .int .i64 k ∧ b = .int .i64 v ∧ v = Fd.freeK r k ∧ Box wr w.heap.size 38 (Ros.cells r) ∧ Below w.heap.size w wr) (fun _ i _ => 8 - (intOf i).toNat)
 case atStart => exact ⟨0, -1, by omega, rfl, rfl, rfl, P0.out, K0.out⟩
 case round =>
  obtain ⟨k, v, hk, rfl, rfl, hv, hB, hb⟩ := hrel
  clear P0 K0
  have HB := qh hB
  have HBB := qh hb
  clear hB hb
  have HV := qh hv
  have hvi : v = -1 ∨ ∃ q : Nat, q < 8 ∧ v = q := by
   rcases Fd.freeK_is r k with h | ⟨q, hq, h⟩
   · exact .inl (hv.trans h)
   · exact .inr ⟨q, by omega, hv.trans h⟩
  clear hv
  by_cases hlt : k < 8
  · have hk8 : (k : Int) < 8 := by omega
    rcases hvi with rfl | ⟨q, hq, rfl⟩
    · skip
      go_upto_region 5 with (first | ((with_reducible refine ros_load_g ?_ rfl ?_); (focus first | rfl | kernel_rfl | simp [Region.wanted, yielded]); apply LoadRow.mk rfl; (focus (with_reducible exact HB.out)); (focus (exact ros_info))) | (go_at_call 54; ((with_reducible refine ((cm _).out).mono ?_); rintro e w1 ⟨⟨v1, rfl, hv⟩, hb⟩; obtain rfl : v1 = true := hv.2 HOK.out; have B1 := qh (HB.out.below hb HB.out.lt); have K1 := qh (HBB.out.trans (hb.mono HBB.out.size)); clear hb hv)))
      have c1 := (B1.out.cell (1 + k * 2)).trans (Ros.cells_peer r k hlt)
      have g1 := (B1.out.cell (1 + k * 2 + 1)).trans (Ros.cells_gen r k hlt)
      obtain ⟨pk, hpk⟩ : ∃ pk, pk = r.peer k := ⟨_, rfl⟩
      rw [← hpk] at c1
      have HP := qh hpk.symm
      clear hpk
      have B3 := fun m => qh (B1.out.draws m)
      have K3 := fun m => qh (draws_below K1.out m)
      by_cases hp : pk < 0
      · go_quiet (fail)
        go_wp2
        go_roundw
        case rel => exact ⟨k + 1, (k : Int), by omega, by go_num, rfl, Fd.freeK_yes HV.out (by rw [HP.out]; exact hp) (.inl (by omega)), (B3 _).out, (K3 _).out⟩
        case measure => simp [intOf]; omega
      · go_quiet (fail)
        go_wp2
        go_roundw
        case rel => exact ⟨k + 1, -1, by omega, by go_num, rfl, Fd.freeK_no HV.out (fun h => hp (HP.out ▸ h.1)), (B3 _).out, (K3 _).out⟩
        case measure => simp [intOf]; omega
    · skip
      go_upto_region 5 with (first | ((with_reducible refine ros_load_g ?_ rfl ?_); (focus first | rfl | kernel_rfl | simp [Region.wanted, yielded]); apply LoadRow.mk rfl; (focus (with_reducible exact HB.out)); (focus (exact ros_info))) | (go_at_call 54; ((with_reducible refine ((cm _).out).mono ?_); rintro e w1 ⟨⟨v1, rfl, hv⟩, hb⟩; obtain rfl : v1 = true := hv.2 HOK.out; have B1 := qh (HB.out.below hb HB.out.lt); have K1 := qh (HBB.out.trans (hb.mono HBB.out.size)); clear hb hv)))
      have c1 := (B1.out.cell (1 + k * 2)).trans (Ros.cells_peer r k hlt)
      have g1 := (B1.out.cell (1 + k * 2 + 1)).trans (Ros.cells_gen r k hlt)
      have hq8 : (q : Int) < 8 := by omega
      have g2 := (B1.out.cell (1 + q * 2 + 1)).trans (Ros.cells_gen r q hq)
      obtain ⟨pk, hpk⟩ : ∃ pk, pk = r.peer k := ⟨_, rfl⟩
      obtain ⟨gk, hgk⟩ : ∃ gk, gk = r.gen k := ⟨_, rfl⟩
      obtain ⟨gq, hgq⟩ : ∃ gq, gq = r.gen q := ⟨_, rfl⟩
      rw [← hpk] at c1
      rw [← hgk] at g1
      rw [← hgq] at g2
      have HP := qh hpk.symm
      have HK := qh hgk.symm
      have HQ := qh hgq.symm
      clear hpk hgk hgq
      have B3 := fun m => qh (B1.out.draws m)
      have K3 := fun m => qh (draws_below K1.out m)
      by_cases hp : pk < 0
      · by_cases hg : gk < gq
        · go_quiet (fail)
          go_wp2
          go_roundw
          case rel => exact ⟨k + 1, (k : Int), by omega, by go_num, rfl, Fd.freeK_yes HV.out (by rw [HP.out]; exact hp) (.inr (by rw [HK.out, Int.toNat_natCast, HQ.out]; exact hg)), (B3 _).out, (K3 _).out⟩
          case measure => simp [intOf]; omega
        · go_quiet (fail)
          go_wp2
          go_roundw
          case rel => exact ⟨k + 1, (q : Int), by omega, by go_num, rfl, Fd.freeK_no HV.out (fun h => hg (by have h2 := h.2.resolve_left (by omega); rw [HK.out, Int.toNat_natCast, HQ.out] at h2; exact h2)), (B3 _).out, (K3 _).out⟩
          case measure => simp [intOf]; omega
      · go_quiet (fail)
        go_wp2
        go_roundw
        case rel => exact ⟨k + 1, (q : Int), by omega, by go_num, rfl, Fd.freeK_no HV.out (fun h => hp (HP.out ▸ h.1)), (B3 _).out, (K3 _).out⟩
        case measure => simp [intOf]; omega
  · have hk8 : ¬ (k : Int) < 8 := by omega
    obtain rfl : k = 8 := by omega
    rcases hvi with rfl | ⟨q, hq, rfl⟩
    · go_wp2
      go_ret
      exact ⟨by unfold Fd.freeV; rw [← HV.out, if_neg (by omega)] <;> rfl, HBB.out⟩
    · have hq8 : (q : Int) < 8 := by omega
      have g2 := (HB.out.cell (1 + q * 2 + 1)).trans (Ros.cells_gen r q hq)
      obtain ⟨gq, hgq⟩ : ∃ gq, gq = r.gen q := ⟨_, rfl⟩
      rw [← hgq] at g2
      by_cases hg : gq = 60000
      · have hg' : (gq == 60000) = true := by simpa using hg
        have HGQ := qh (show r.gen q = 60000 from hgq ▸ hg)
        clear hgq
        go_wp2
        go_ret
        exact ⟨by unfold Fd.freeV; rw [← HV.out, if_pos ⟨by omega, by rw [Int.toNat_natCast]; exact HGQ.out⟩] <;> rfl, HBB.out⟩
      · have hg' : (gq == 60000) = false := by simpa using hg
        have HGQ := qh (show r.gen q ≠ 60000 from hgq ▸ hg)
        clear hgq
        go_wp2
        go_ret
        exact ⟨by unfold Fd.freeV; rw [← HV.out, if_neg (fun h => HGQ.out (by have h2 := h.2; rw [Int.toNat_natCast] at h2; exact h2))] <;> rfl, HBB.out⟩
section
variable {ops : Array Oper} {rest : List Oper} {o : Oper} {a : Act} {w : World} {Q : Exit → Act → World → Prop} {x y : Operand} {dst : Option Tmp} {p v : Value}
def StoreIn (ops : Array Oper) (Q : Exit → Act → World → Prop) (rest : List Oper) (dst : Option Tmp) (p v : Value) (a : Act) (w : World) : Prop :=
 ∃ (B i : Nat) (e : En.E) (s : Value) (u : Gm.In), p = .pointer (some ⟨B, 2 + i * 3, none⟩) ∧ v = .agg #[.int .i8 u.x, .int .i8 u.y, .int .u8 u.b] ∧ i < 8 ∧ Box w B 51 (En.cells e s) ∧ wpList Tryz.prog ops Q rest (a.put dst undef) (w.setRow B (En.cells { e with inp := En.upd e.inp i u } s))
theorem StoreIn.mk {B i : Nat} {e : En.E} {s : Value} {u : Gm.In} (hp : p = .pointer (some ⟨B, 2 + i * 3, none⟩)) (hv : v = .agg #[.int .i8 u.x, .int .i8 u.y, .int .u8 u.b]) (hi : i < 8) (hB : Box w B 51 (En.cells e s)) (h : wpList Tryz.prog ops Q rest (a.put dst undef) (w.setRow B (En.cells { e with inp := En.upd e.inp i u } s))) : StoreIn ops Q rest dst p v a w := ⟨B, i, e, s, u, hp, hv, hi, hB, h⟩
theorem en_splice (e : En.E) (s : Value) (i : Nat) (hi : i < 8) (u : Gm.In) : splice (En.cells e s) (2 + i * 3) [.int .i8 u.x, .int .i8 u.y, .int .u8 u.b] = En.cells { e with inp := En.upd e.inp i u } s := by
 match i, hi with
 | 0, _ | 1, _ | 2, _ | 3, _ | 4, _ | 5, _ | 6, _ | 7, _ => rfl
theorem en_store_in (hgd : o.guard = none) (ho : o.op = .store 48 x y) (h : StoreIn ops Q rest o.dst (a.eval x) (a.eval y) a w) : wpList Tryz.prog ops Q (o :: rest) a w := by
 obtain ⟨B, i, e, s, u, hx, hy, hi, hB, h⟩ := h
 refine wpList_store_mid hgd 48 x y ho B (2 + i * 3) #[.int .i8 u.x, .int .i8 u.y, .int .u8 u.b] hx hy (hB.there _ _ (by rw [En.cells_size]; show 2 + i * 3 + 3 ≤ 26; omega)) in_info (by simp [Value.oneCell']) ?_
 rw [setCells_row B 51 _ (2 + i * 3) (En.cells e s) w hB.is (by rw [En.cells_size]; show 2 + i * 3 + 3 ≤ 26; omega), en_splice e s i hi u]
 exact h
end
open Go.ChangeShapes Go.WideShapes Go.ChangeAt Go.RowKit Go.Joins Go.ChangeMaps Go.Deep
section
variable {H : Type} {enc : TypeId × Value → H} {w : World} {base : Nat} {spare : Nat → Bool} {held : Bool}
theorem trod_in {fuel : Nat} {a b c : Value} {y : DataW H × List MemPlace} (h : DataW.trod enc Tryz.prog w base spare held fuel 48 [a, b, c] = some y) : ∃ q : Gm.In, [a, b, c] = q.cells ∧ Gm.tyIn q ∧ y.2 = [] := by
 obtain ⟨y0, y1, y2, n, hx, _, h0, h1, h2⟩ := trod_struct3 Tryz.underlying48 h
 obtain ⟨x0, e0, rfl, w0⟩ := DataW.trod_int Tryz.underlying46 h0
 obtain ⟨x1, e1, rfl, w1⟩ := DataW.trod_int Tryz.underlying46 h1
 obtain ⟨x2, e2, rfl, w2⟩ := DataW.trod_int Tryz.underlying5 h2
 have c8 : Tryz.prog.cellsOf 46 = 1 := by kernel_rfl
 have cu : Tryz.prog.cellsOf 5 = 1 := by kernel_rfl
 simp [c8, cu] at e0 e1 e2
 subst e0 e1 e2
 exact ⟨⟨x0, x1, x2⟩, rfl, ⟨Bd.i8 w0, Bd.i8 w1, Bd.u8 w2⟩, by rw [hx]; rfl⟩
theorem cut24 {α : Type} (l : List α) (h : l.length = 24) : l = (l.drop (0 * 3)).take 3 ++ ((l.drop (1 * 3)).take 3 ++ ((l.drop (2 * 3)).take 3 ++ ((l.drop (3 * 3)).take 3 ++ ((l.drop (4 * 3)).take 3 ++ ((l.drop (5 * 3)).take 3 ++ ((l.drop (6 * 3)).take 3 ++ ((l.drop (7 * 3)).take 3))))))) := by
 match l, h with
 | [a0, a1, a2, a3, a4, a5, a6, a7, a8, a9, a10, a11, a12, a13, a14, a15, a16, a17, a18, a19, a20, a21, a22, a23], _ => rfl
end
theorem cut_at9 {α : Type} (l : List α) (a b : Nat) : l.drop a = (l.drop a).take b ++ l.drop (a + b) := by
 have := (List.take_append_drop b (l.drop a)).symm
 rwa [List.drop_drop] at this
theorem cut_end9 {α : Type} (l : List α) (a b : Nat) (h : l.length = a + b) : l.drop a = (l.drop a).take b := by
 rw [List.take_of_length_le (by simp; omega)]
section
variable {H : Type} {enc : TypeId × Value → H} {w : World} {base : Nat} {spare : Nat → Bool} {held : Bool}
theorem trod_ins {base : Nat} {spare : Nat → Bool} {held : Bool} {fuel : Nat} {l : List Value} {y : DataW H × List MemPlace} (hl : l.length = 24) (h : DataW.trod enc Tryz.prog w base spare held fuel 49 l = some y) :
 ∃ f : Nat → Gm.In, l = Gm.insCells f ∧ ∀ k, k < 8 → Gm.tyIn (f k) := by
 obtain ⟨xs, m, _, hx, _, hn, he⟩ := DataW.trod_array Tryz.underlying49 h
 have c3 : Tryz.prog.cellsOf 48 = 3 := by kernel_rfl
 simp only [c3] at he
 have key : ∀ i, i < 8 → ∃ q : Gm.In, (l.drop (i * 3)).take 3 = q.cells ∧ Gm.tyIn q := by
  intro i hi
  have hlen : ((l.drop (i * 3)).take 3).length = 3 := by simp; omega
  obtain ⟨y, hy⟩ : ∃ y, xs[i]? = some y := ⟨xs[i]'(by omega), List.getElem?_eq_getElem (by omega)⟩
  have h : DataW.trod enc Tryz.prog w base spare held m 48 ((l.drop (i * 3)).take 3) = xs[i]? := he i hi
  rw [hy] at h
  match hq : (l.drop (i * 3)).take 3, hlen with
  | [a, b, c], _ =>
   rw [hq] at h
   obtain ⟨q, h1, h2, _⟩ := trod_in h
   exact ⟨q, h1, h2⟩
 have hch : ∃ ps : Nat → Gm.In, ∀ i, i < 8 → ((l.drop (i * 3)).take 3 = (ps i).cells ∧ Gm.tyIn (ps i)) :=
  ⟨fun i => if h : i < 8 then (key i h).choose else ⟨0, 0, 0⟩, fun i hi => by dsimp only; rw [dif_pos hi]; exact (key i hi).choose_spec⟩
 obtain ⟨ps, hps⟩ := hch
 refine ⟨ps, ?_, fun i hi => (hps i hi).2⟩
 rw [cut24 l hl]
 unfold Gm.insCells
 rw [(hps 0 (by decide)).1, (hps 1 (by decide)).1, (hps 2 (by decide)).1, (hps 3 (by decide)).1, (hps 4 (by decide)).1, (hps 5 (by decide)).1, (hps 6 (by decide)).1, (hps 7 (by decide)).1]
end
end Go.Proofs.YtbdlpbnfcnhajaaGreat