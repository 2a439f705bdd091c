/-
Several texts in one: Er Yf.
-/
import Derived.Test.YtgmlbimgcifenaaVz5
set_option maxRecDepth 100000
set_option maxHeartbeats 8000000
set_option linter.unusedVariables false
set_option linter.unusedSimpArgs false
namespace En
open Go
def At (kd sl z : Int) : Prop := (kd = 2 ∧ (-1 ≤ sl ∧ sl ≤ 7) ∧ z = sl) ∨ (kd = 1 ∧ (0 ≤ sl ∧ sl ≤ 7) ∧ z = 8 + sl)
end En
namespace Go.Proofs.Ytgmlbimgcifenaa
open Go.RowKit Go.Shelf
theorem refmayin_any (x y b : Int) (w : World) (hx : -128 ≤ x) (hy : -128 ≤ y) :
    Calls Try.prog 28 #[.agg #[.int .i8 x, .int .i8 y, .int .u8 b]] w fun e w' => e = .returned (.bool (decide (-127 ≤ x ∧ -127 ≤ y))) ∧ Below w.heap.size w w' := by
  by_cases h1 : x = -128
  · subst h1
    go_enter Try.func28, Try.ntmps28
    go_wp2
    go_ret
    exact ⟨ret_bool (by simp), one_below _ _⟩
  · have e1 : (x != -128) = true := by simpa using h1
    by_cases h2 : y = -128
    · subst h2
      go_enter Try.func28, Try.ntmps28
      go_wp2
      go_ret
      exact ⟨ret_bool (by simp), one_below _ _⟩
    · have e2 : (y != -128) = true := by simpa using h2
      have hd : decide (-127 ≤ x ∧ -127 ≤ y) = true := decide_eq_true (by omega)
      rw [hd]
      go_enter Try.func28, Try.ntmps28
      go_wp2
      go_ret
      exact ⟨ret_bool (by simp), one_below _ _⟩
theorem refmayen_any (e : En.E) (A : Option Addr) (n c : Nat) (w : World) (hn : n = e.evs.length) (hn63 : n ≤ maxLen) (hty : ∀ i, i < 8 → Gm.tyIn (e.inp i)) (hL : Lies w w.heap.size 4 A n (En.evCells e.evs)) :
    Calls Try.prog 24 #[.agg (En.cells e (.slice A n c))] w fun r w' => r = .returned (.bool (decide (En.Ok e))) ∧ Below w.heap.size w w' := by
  obtain ⟨d, hv⟩ : ∃ d, d = decide (En.Ok e) := ⟨_, rfl⟩
  rw [← hv]
  have HV := qh hv
  have HN := qh hn
  clear hv hn
  have P0 := qh (Box.made w 53 (En.cells e (.slice A n c)))
  have K0 := qh (one_below w (.cells (En.cells e (.slice A n c)) 53))
  have hr0 := qh ((hL.below K0.out).wider K0.out.size)
  have c0 := P0.out.cell 0
  have c1 := P0.out.cell 1
  rw [En.cells_0] at c0
  rw [En.cells_1] at c1
  have n63 : (n : Int) ≤ 9223372036854775807 := by unfold maxLen at hn63; omega
  clear hL hn63
  by_cases hf1 : e.frame < 0
  · have hno := qh (show ¬ En.Ok e from fun h => by have := h.frame; omega)
    go_enter Try.func24, Try.ntmps24
    go_wp2
    go_ret
    exact ⟨ret_bool (by rw [HV.out]; exact (decide_eq_false hno.out).symm), K0.out⟩
  by_cases hf2 : 1048576 ≤ e.frame
  · have hno := qh (show ¬ En.Ok e from fun h => by have := h.frame; omega)
    go_enter Try.func24, Try.ntmps24
    go_wp2
    go_ret
    exact ⟨ret_bool (by rw [HV.out]; exact (decide_eq_false hno.out).symm), K0.out⟩
  have HF := qh (show 0 ≤ e.frame ∧ e.frame < 1048576 by omega)
  go_enter Try.func24, Try.ntmps24
  go_wp2
  go_loopw [3, 4, 5] (fun kv sv i wr => ∃ (k : Nat) (kd sl z : Int), k ≤ n ∧ i = .int .i64 k ∧ kv = .int .i64 kd ∧ sv = .int .i64 sl ∧ En.At kd sl z ∧ (En.Row (-1) e.evs ↔ En.Row z (e.evs.drop k)) ∧ Below (w.alloc (.cells (En.cells e (.slice A n c)) 53)).heap.size (w.alloc (.cells (En.cells e (.slice A n c)) 53)) wr) (fun _ _ i _ => n - (intOf i).toNat)
  case atStart => exact ⟨0, 2, -1, -1, by omega, rfl, rfl, rfl, .inl ⟨rfl, by omega, rfl⟩, Iff.rfl, Below.refl _ _⟩
  case round =>
    obtain ⟨k, kd, sl, z, hk, rfl, rfl, rfl, hat, hrow, hb⟩ := hrel
    have p1 := ((P0.out.below hb P0.out.lt).cell 1).trans (En.cells_1 _ _)
    have HB := qh hb
    have KB := qh (K0.out.trans (hb.mono K0.out.size))
    by_cases hlt : k < n
    · have hk8 : (k : Int) < n := by omega
      have hkl : k < e.evs.length := by have := HN.out; omega
      obtain ⟨ad, rfl, hbl, e0, e1, e2, e3⟩ := evs_at (hr0.out.below hb) HN.out k hkl
      rw [List.drop_eq_getElem_cons hkl] at hrow
      generalize hv : e.evs[k] = v at e0 e1 e2 e3 hrow
      obtain ⟨vk, vs, vg, vp⟩ := v
      dsimp only at e0 e1 e2 e3
      have hrow' : En.Row (-1) e.evs ↔ (En.evOk ⟨vk, vs, vg, vp⟩ ∧ z < En.place ⟨vk, vs, vg, vp⟩) ∧ En.Row (En.place ⟨vk, vs, vg, vp⟩) (e.evs.drop (k + 1)) := hrow
      have HW := qh hrow'
      have sz := hb.size
      have ltA : ad.block < wr.heap.size := Nat.lt_of_lt_of_le hbl hb.size
      have ltP := (P0.out.below hb P0.out.lt).lt
      have Q1 := qh (Box.made wr 59 #[.int .i64 vk, .int .i64 vs, .int .i64 vg, .int .i64 vp])
      have K1 := qh (KB.out.alloc KB.out.size (.cells #[.int .i64 vk, .int .i64 vs, .int .i64 vg, .int .i64 vp] 59))
      have KX := qh (HB.out.alloc HB.out.size (.cells #[.int .i64 vk, .int .i64 vs, .int .i64 vg, .int .i64 vp] 59))
      have q1 := Q1.out.cell
      have HAT := qh hat
      clear hrow hrow' hb hv hat
      rcases HAT.out with ⟨rfl, hs, rfl⟩ | ⟨rfl, hs, rfl⟩
      · by_cases k1 : vk = 1
        · subst k1
          have HPL := qh (show En.place ⟨1, vs, vg, vp⟩ = 8 + vs from rfl)
          by_cases t1 : vs ≤ -1
          · have HNO := qh (show ¬ (En.evOk ⟨1, vs, vg, vp⟩ ∧ z < En.place ⟨1, vs, vg, vp⟩) from fun h => by obtain ⟨⟨_, h2, _⟩, h5⟩ := h; rw [HPL.out] at h5; dsimp only at h2 h5; omega)
            go_wp2
            go_ret
            exact ⟨ret_bool (by rw [HV.out]; exact (decide_eq_false fun h => absurd (HW.out.1 h.row).1 HNO.out).symm), K1.out⟩
          by_cases t2 : 8 ≤ vs
          · have HNO := qh (show ¬ (En.evOk ⟨1, vs, vg, vp⟩ ∧ z < En.place ⟨1, vs, vg, vp⟩) from fun h => by obtain ⟨⟨_, h2, h3, h4⟩, _⟩ := h; dsimp only at h2 h3 h4; omega)
            go_wp2
            go_ret
            exact ⟨ret_bool (by rw [HV.out]; exact (decide_eq_false fun h => absurd (HW.out.1 h.row).1 HNO.out).symm), K1.out⟩
          by_cases t3 : vg < 1
          · have HNO := qh (show ¬ (En.evOk ⟨1, vs, vg, vp⟩ ∧ z < En.place ⟨1, vs, vg, vp⟩) from fun h => by obtain ⟨⟨_, h2, h3, h4⟩, _⟩ := h; dsimp only at h2 h3 h4; omega)
            go_wp2
            go_ret
            exact ⟨ret_bool (by rw [HV.out]; exact (decide_eq_false fun h => absurd (HW.out.1 h.row).1 HNO.out).symm), K1.out⟩
          by_cases t4 : 60000 < vg
          · have HNO := qh (show ¬ (En.evOk ⟨1, vs, vg, vp⟩ ∧ z < En.place ⟨1, vs, vg, vp⟩) from fun h => by obtain ⟨⟨_, h2, h3, h4⟩, _⟩ := h; dsimp only at h2 h3 h4; omega)
            go_wp2
            go_ret
            exact ⟨ret_bool (by rw [HV.out]; exact (decide_eq_false fun h => absurd (HW.out.1 h.row).1 HNO.out).symm), K1.out⟩
          by_cases t5 : vp < 0
          · have HNO := qh (show ¬ (En.evOk ⟨1, vs, vg, vp⟩ ∧ z < En.place ⟨1, vs, vg, vp⟩) from fun h => by obtain ⟨⟨_, h2, h3, h4⟩, _⟩ := h; dsimp only at h2 h3 h4; omega)
            go_wp2
            go_ret
            exact ⟨ret_bool (by rw [HV.out]; exact (decide_eq_false fun h => absurd (HW.out.1 h.row).1 HNO.out).symm), K1.out⟩
          by_cases t6 : 12 ≤ vp
          · have HNO := qh (show ¬ (En.evOk ⟨1, vs, vg, vp⟩ ∧ z < En.place ⟨1, vs, vg, vp⟩) from fun h => by obtain ⟨⟨_, h2, h3, h4⟩, _⟩ := h; dsimp only at h2 h3 h4; omega)
            go_wp2
            go_ret
            exact ⟨ret_bool (by rw [HV.out]; exact (decide_eq_false fun h => absurd (HW.out.1 h.row).1 HNO.out).symm), K1.out⟩
          have HNX := qh (show En.Row (-1) e.evs ↔ En.Row (8 + vs) (e.evs.drop (k + 1)) from by rw [HW.out, HPL.out]; exact ⟨fun h => h.2, fun h => ⟨⟨⟨by first | exact .inl rfl | exact .inr rfl, by dsimp only; omega, by dsimp only; omega, by dsimp only; omega⟩, by (try dsimp only); omega⟩, h⟩⟩)
          go_wp2
          go_roundw
          case rel => exact ⟨k + 1, 1, vs, 8 + vs, by omega, by go_num, rfl, rfl, .inr ⟨rfl, by omega, rfl⟩, HNX.out, KX.out⟩
          case measure => simp [intOf]; omega
        · by_cases k2 : vk = 2
          · subst k2
            have HPL := qh (show En.place ⟨2, vs, vg, vp⟩ = vs from rfl)
            by_cases t1 : vs ≤ z
            · have HNO := qh (show ¬ (En.evOk ⟨2, vs, vg, vp⟩ ∧ z < En.place ⟨2, vs, vg, vp⟩) from fun h => by obtain ⟨⟨_, h2, _⟩, h5⟩ := h; rw [HPL.out] at h5; dsimp only at h2 h5; omega)
              go_wp2
              go_ret
              exact ⟨ret_bool (by rw [HV.out]; exact (decide_eq_false fun h => absurd (HW.out.1 h.row).1 HNO.out).symm), K1.out⟩
            by_cases t2 : 8 ≤ vs
            · have HNO := qh (show ¬ (En.evOk ⟨2, vs, vg, vp⟩ ∧ z < En.place ⟨2, vs, vg, vp⟩) from fun h => by obtain ⟨⟨_, h2, h3, h4⟩, _⟩ := h; dsimp only at h2 h3 h4; omega)
              go_wp2
              go_ret
              exact ⟨ret_bool (by rw [HV.out]; exact (decide_eq_false fun h => absurd (HW.out.1 h.row).1 HNO.out).symm), K1.out⟩
            by_cases t3 : vg < 1
            · have HNO := qh (show ¬ (En.evOk ⟨2, vs, vg, vp⟩ ∧ z < En.place ⟨2, vs, vg, vp⟩) from fun h => by obtain ⟨⟨_, h2, h3, h4⟩, _⟩ := h; dsimp only at h2 h3 h4; omega)
              go_wp2
              go_ret
              exact ⟨ret_bool (by rw [HV.out]; exact (decide_eq_false fun h => absurd (HW.out.1 h.row).1 HNO.out).symm), K1.out⟩
            by_cases t4 : 60000 < vg
            · have HNO := qh (show ¬ (En.evOk ⟨2, vs, vg, vp⟩ ∧ z < En.place ⟨2, vs, vg, vp⟩) from fun h => by obtain ⟨⟨_, h2, h3, h4⟩, _⟩ := h; dsimp only at h2 h3 h4; omega)
              go_wp2
              go_ret
              exact ⟨ret_bool (by rw [HV.out]; exact (decide_eq_false fun h => absurd (HW.out.1 h.row).1 HNO.out).symm), K1.out⟩
            by_cases t5 : vp < 0
            · have HNO := qh (show ¬ (En.evOk ⟨2, vs, vg, vp⟩ ∧ z < En.place ⟨2, vs, vg, vp⟩) from fun h => by obtain ⟨⟨_, h2, h3, h4⟩, _⟩ := h; dsimp only at h2 h3 h4; omega)
              go_wp2
              go_ret
              exact ⟨ret_bool (by rw [HV.out]; exact (decide_eq_false fun h => absurd (HW.out.1 h.row).1 HNO.out).symm), K1.out⟩
            by_cases t6 : 12 ≤ vp
            · have HNO := qh (show ¬ (En.evOk ⟨2, vs, vg, vp⟩ ∧ z < En.place ⟨2, vs, vg, vp⟩) from fun h => by obtain ⟨⟨_, h2, h3, h4⟩, _⟩ := h; dsimp only at h2 h3 h4; omega)
              go_wp2
              go_ret
              exact ⟨ret_bool (by rw [HV.out]; exact (decide_eq_false fun h => absurd (HW.out.1 h.row).1 HNO.out).symm), K1.out⟩
            have HNX := qh (show En.Row (-1) e.evs ↔ En.Row (vs) (e.evs.drop (k + 1)) from by rw [HW.out, HPL.out]; exact ⟨fun h => h.2, fun h => ⟨⟨⟨by first | exact .inl rfl | exact .inr rfl, by dsimp only; omega, by dsimp only; omega, by dsimp only; omega⟩, by (try dsimp only); omega⟩, h⟩⟩)
            go_wp2
            go_roundw
            case rel => exact ⟨k + 1, 2, vs, vs, by omega, by go_num, rfl, rfl, .inl ⟨rfl, by omega, rfl⟩, HNX.out, KX.out⟩
            case measure => simp [intOf]; omega
          · have b1 : (vk == 1) = false := by simpa using k1
            have b2 : (vk != 2) = true := by simpa using k2
            have HNO := qh (show ¬ (En.evOk ⟨vk, vs, vg, vp⟩ ∧ z < En.place ⟨vk, vs, vg, vp⟩) from fun h => by obtain ⟨⟨h1, _⟩, _⟩ := h; dsimp only at h1; omega)
            go_wp2
            go_ret
            exact ⟨ret_bool (by rw [HV.out]; exact (decide_eq_false fun h => absurd (HW.out.1 h.row).1 HNO.out).symm), K1.out⟩
      · by_cases k1 : vk = 1
        · subst k1
          have HPL := qh (show En.place ⟨1, vs, vg, vp⟩ = 8 + vs from rfl)
          by_cases t1 : vs ≤ sl
          · have HNO := qh (show ¬ (En.evOk ⟨1, vs, vg, vp⟩ ∧ 8 + sl < En.place ⟨1, vs, vg, vp⟩) from fun h => by obtain ⟨⟨_, h2, _⟩, h5⟩ := h; rw [HPL.out] at h5; dsimp only at h2 h5; omega)
            go_wp2
            go_ret
            exact ⟨ret_bool (by rw [HV.out]; exact (decide_eq_false fun h => absurd (HW.out.1 h.row).1 HNO.out).symm), K1.out⟩
          by_cases t2 : 8 ≤ vs
          · have HNO := qh (show ¬ (En.evOk ⟨1, vs, vg, vp⟩ ∧ 8 + sl < En.place ⟨1, vs, vg, vp⟩) from fun h => by obtain ⟨⟨_, h2, h3, h4⟩, _⟩ := h; dsimp only at h2 h3 h4; omega)
            go_wp2
            go_ret
            exact ⟨ret_bool (by rw [HV.out]; exact (decide_eq_false fun h => absurd (HW.out.1 h.row).1 HNO.out).symm), K1.out⟩
          by_cases t3 : vg < 1
          · have HNO := qh (show ¬ (En.evOk ⟨1, vs, vg, vp⟩ ∧ 8 + sl < En.place ⟨1, vs, vg, vp⟩) from fun h => by obtain ⟨⟨_, h2, h3, h4⟩, _⟩ := h; dsimp only at h2 h3 h4; omega)
            go_wp2
            go_ret
            exact ⟨ret_bool (by rw [HV.out]; exact (decide_eq_false fun h => absurd (HW.out.1 h.row).1 HNO.out).symm), K1.out⟩
          by_cases t4 : 60000 < vg
          · have HNO := qh (show ¬ (En.evOk ⟨1, vs, vg, vp⟩ ∧ 8 + sl < En.place ⟨1, vs, vg, vp⟩) from fun h => by obtain ⟨⟨_, h2, h3, h4⟩, _⟩ := h; dsimp only at h2 h3 h4; omega)
            go_wp2
            go_ret
            exact ⟨ret_bool (by rw [HV.out]; exact (decide_eq_false fun h => absurd (HW.out.1 h.row).1 HNO.out).symm), K1.out⟩
          by_cases t5 : vp < 0
          · have HNO := qh (show ¬ (En.evOk ⟨1, vs, vg, vp⟩ ∧ 8 + sl < En.place ⟨1, vs, vg, vp⟩) from fun h => by obtain ⟨⟨_, h2, h3, h4⟩, _⟩ := h; dsimp only at h2 h3 h4; omega)
            go_wp2
            go_ret
            exact ⟨ret_bool (by rw [HV.out]; exact (decide_eq_false fun h => absurd (HW.out.1 h.row).1 HNO.out).symm), K1.out⟩
          by_cases t6 : 12 ≤ vp
          · have HNO := qh (show ¬ (En.evOk ⟨1, vs, vg, vp⟩ ∧ 8 + sl < En.place ⟨1, vs, vg, vp⟩) from fun h => by obtain ⟨⟨_, h2, h3, h4⟩, _⟩ := h; dsimp only at h2 h3 h4; omega)
            go_wp2
            go_ret
            exact ⟨ret_bool (by rw [HV.out]; exact (decide_eq_false fun h => absurd (HW.out.1 h.row).1 HNO.out).symm), K1.out⟩
          have HNX := qh (show En.Row (-1) e.evs ↔ En.Row (8 + vs) (e.evs.drop (k + 1)) from by rw [HW.out, HPL.out]; exact ⟨fun h => h.2, fun h => ⟨⟨⟨by first | exact .inl rfl | exact .inr rfl, by dsimp only; omega, by dsimp only; omega, by dsimp only; omega⟩, by (try dsimp only); omega⟩, h⟩⟩)
          go_wp2
          go_roundw
          case rel => exact ⟨k + 1, 1, vs, 8 + vs, by omega, by go_num, rfl, rfl, .inr ⟨rfl, by omega, rfl⟩, HNX.out, KX.out⟩
          case measure => simp [intOf]; omega
        · have b1 : (vk == 1) = false := by simpa using k1
          have b2 : (vk != 1) = true := by simpa using k1
          have HNO := qh (show ¬ (En.evOk ⟨vk, vs, vg, vp⟩ ∧ 8 + sl < En.place ⟨vk, vs, vg, vp⟩) from fun h => by
            obtain ⟨⟨h1, h2, _⟩, h5⟩ := h
            dsimp only at h1 h2
            have : vk = 2 := by omega
            subst this
            rw [show En.place ⟨2, vs, vg, vp⟩ = vs from rfl] at h5
            omega)
          go_wp2
          go_ret
          exact ⟨ret_bool (by rw [HV.out]; exact (decide_eq_false fun h => absurd (HW.out.1 h.row).1 HNO.out).symm), K1.out⟩
    · have hk8 : ¬ (k : Int) < n := by omega
      obtain rfl : k = n := by omega
      have hd : e.evs.drop k = [] := List.drop_eq_nil_of_le (by have := HN.out; omega)
      rw [hd] at hrow
      have HW := qh (show En.Row (-1) e.evs from hrow.2 trivial)
      clear hrow hb hat c0 c1
      go_wp2
      go_loopw [7] (fun i wq => ∃ m : Nat, m ≤ 8 ∧ i = .int .i64 m ∧ Below wr.heap.size wr wq ∧ ∀ j, j < m → En.inOk (e.inp j)) (fun i _ => 8 - (intOf i).toNat)
      case atStart => exact ⟨0, by omega, rfl, Below.refl _ _, fun j hj => absurd hj (Nat.not_lt_zero j)⟩
      case round =>
        obtain ⟨m, hm, rfl, hb2, hall⟩ := hrel
        have KM := qh (KB.out.trans (hb2.mono KB.out.size))
        have PM := qh ((P0.out.below HB.out P0.out.lt).below hb2 (P0.out.below HB.out P0.out.lt).lt)
        clear p1
        by_cases hlt8 : m < 8
        · have hm8 : (m : Int) < 8 := by omega
          have e0 := (PM.out.cell (2 + m * 3)).trans (En.cells_in e _ m 0 hlt8 (by omega))
          have e1 := (PM.out.cell (2 + m * 3 + 1)).trans (En.cells_in e _ m 1 hlt8 (by omega))
          have e2 := (PM.out.cell (2 + m * 3 + 2)).trans (En.cells_in e _ m 2 hlt8 (by omega))
          have hok : En.inOk (e.inp m) ↔ (-127 ≤ (e.inp m).x ∧ -127 ≤ (e.inp m).y) := Iff.rfl
          have hti := hty m hlt8
          have HK := qh (show ∀ j, j < m + 1 → j = m ∨ j < m from fun j hj => by omega)
          obtain ⟨p, hp⟩ : ∃ p, p = e.inp m := ⟨_, rfl⟩
          rw [← hp] at e0 e1 e2 hok hti
          obtain ⟨x, y, b⟩ := p
          simp only [Gm.In.cells, List.getElem?_cons_zero, List.getElem?_cons_succ, Nat.add_zero] at e0 e1 e2
          dsimp only at hok
          obtain ⟨tx, ty, tb⟩ := hti
          dsimp only at tx ty tb
          have cs := fun X => qh (refmayin_any x y b X tx.1 ty.1)
          have HP := qh hp
          have HALL := qh hall
          have HB2 := qh hb2
          clear hp hall hb2
          by_cases hi : -127 ≤ x ∧ -127 ≤ y
          · rw [decide_eq_true hi] at cs
            have hnew := qh (show ∀ j, j < m + 1 → En.inOk (e.inp j) from fun j hj => by
              rcases HK.out j hj with rfl | h
              · rw [← HP.out]; exact hok.2 hi
              · exact HALL.out j h)
            clear hok hi
            go_wp2_with (go_at_call 28; ((with_reducible refine ((cs _).out).mono ?_); rintro r w2 ⟨rfl, hb⟩; have K2 := qh (HB2.out.trans (hb.mono HB2.out.size)); clear hb))
            go_roundw
            case rel => exact ⟨m + 1, by omega, by go_num, K2.out, hnew.out⟩
            case measure => simp [intOf]; omega
          · rw [decide_eq_false hi] at cs
            have hno := qh (show ¬ En.Ok e from fun h => hi (by have := h.ins m hlt8; rw [← HP.out] at this; exact this))
            clear hok hi
            go_wp2_with (go_at_call 28; ((with_reducible refine ((cs _).out).mono ?_); rintro r w2 ⟨rfl, hb⟩; have K2 := qh (KM.out.trans (hb.mono KM.out.size)); clear hb))
            go_ret
            exact ⟨ret_bool (by rw [HV.out]; exact (decide_eq_false hno.out).symm), K2.out⟩
        · have hm8 : ¬ (m : Int) < 8 := by omega
          obtain rfl : m = 8 := by omega
          have hyes := qh (show En.Ok e from ⟨HF.out, HW.out, hall⟩)
          clear hall hb2
          go_wp2
          go_ret
          exact ⟨ret_bool (by rw [HV.out]; exact (decide_eq_true hyes.out).symm), KM.out⟩
end Go.Proofs.Ytgmlbimgcifenaa
namespace Ms
def no1 (m : M) : Bool := (((((((((((((decide (m.kind < 1)) || (decide (14 < m.kind))) || (decide (m.frm < 0))) || (decide (12 ≤ m.frm))) || (!(Ms.bare m))) || (decide (m.slot < 0))) || (decide (8 ≤ m.slot))) || (decide (m.frame < 0))) || (decide (1048576 < m.frame))) || (decide (m.code < 0))) || (decide (9 < m.code))) || (decide (m.n < 0))) || (decide (65535 < m.n)))
def no2 (m : M) : Bool := (((((Ms.has m.kind).contains 103) && ((decide (m.gen < 1)) || (decide (60000 < m.gen)))) || (((Ms.has m.kind).contains 111) && (((decide (m.of < 1)) || (decide (65535 < m.of))) || (decide (m.of ≤ m.n))))) || (((Ms.has m.kind).contains 100) && ((decide ((m.data.length : Int) < 1)) || (decide (64 < (m.data.length : Int))))))
def no3 (m : M) : Bool := ((((Ms.has m.kind).contains 105) && ((decide ((m.ins.length : Int) < 1)) || (decide (16 < (m.ins.length : Int))))) || (((Ms.has m.kind).contains 108) && ((decide ((m.log.length : Int) < 1)) || (decide (16 < (m.log.length : Int))))))
def inB (p : Gm.In) : Bool := decide (-127 ≤ p.x ∧ -127 ≤ p.y)
structure Ok (m : M) : Prop where
  n1 : no1 m = false
  n2 : no2 m = false
  n3 : no3 m = false
  ins : ∀ k (h : k < m.ins.length), inB m.ins[k] = true
  log : ∀ k (h : k < m.log.length), En.Ok m.log[k].e ∧ m.log[k].e.frame = m.frame + k
noncomputable def okB (m : M) : Bool := @decide (Ok m) (Classical.propDecidable _)
theorem okB_iff {m : M} : okB m = true ↔ Ok m := by unfold okB; exact @decide_eq_true_iff _ (Classical.propDecidable _)
theorem okB_yes {m : M} (h : Ok m) : true = okB m := (okB_iff.2 h).symm
theorem okB_no {m : M} (h : ¬ Ok m) : false = okB m := by
  cases hb : okB m
  · rfl
  · exact absurd (okB_iff.1 hb) h
theorem frame_fit {m : M} {k : Nat} (h1 : no1 m = false) (h3 : no3 m = false) (hk : k ≤ m.log.length) : 0 ≤ m.frame + (k : Int) ∧ m.frame + (k : Int) ≤ 9223372036854775807 := by
  unfold no1 at h1
  unfold no3 at h3
  simp only [Bool.or_eq_false_iff, decide_eq_false_iff_not] at h1
  obtain ⟨⟨⟨⟨⟨⟨⟨⟨⟨⟨⟨⟨_, _⟩, _⟩, _⟩, hb⟩, _⟩, _⟩, hf1⟩, hf2⟩, _⟩, _⟩, _⟩, _⟩ := h1
  have hb' : bare m = true := by simpa using hb
  have hl : m.log.length ≤ 16 := by
    unfold bare bareOf at hb'
    simp only [Bool.and_eq_true, Bool.or_eq_true, beq_iff_eq] at hb'
    obtain ⟨⟨_, h108⟩, _⟩ := hb'
    rcases h108 with h | h
    · simp only [Bool.or_eq_false_iff, Bool.and_eq_false_iff, h, Bool.true_eq_false, false_or, decide_eq_false_iff_not] at h3
      omega
    · omega
  omega
theorem log_no {e : En.E} {f : Int} (h : (!decide (En.Ok e) || (e.frame != f)) = true) : ¬ (En.Ok e ∧ e.frame = f) := by
  rintro ⟨h1, h2⟩
  rw [decide_eq_true h1, h2] at h
  simp at h
theorem log_yes {e : En.E} {f : Int} (h : (!decide (En.Ok e) || (e.frame != f)) = false) : En.Ok e ∧ e.frame = f := by
  simp only [Bool.or_eq_false_iff, Bool.not_eq_false', decide_eq_true_eq, bne_eq_false_iff_eq] at h
  exact h
structure Ty (m : M) : Prop where
  kind : En.i64 m.kind
  frm : En.i64 m.frm
  serial : 0 ≤ m.serial ∧ m.serial ≤ 65535
  ack : 0 ≤ m.ack ∧ m.ack ≤ 65535
  seen : 0 ≤ m.seen ∧ m.seen ≤ 4294967295
  slot : En.i64 m.slot
  gen : En.i64 m.gen
  frame : En.i64 m.frame
  code : En.i64 m.code
  n : En.i64 m.n
  of : En.i64 m.of
  bits : 0 ≤ m.bits ∧ m.bits ≤ 4294967295
  sum : 0 ≤ m.sum ∧ m.sum ≤ 18446744073709551615
  ins : ∀ p ∈ m.ins, Gm.tyIn p
  log : ∀ q ∈ m.log, En.Ty q.e
  data : Im.IsBytes m.data
end Ms
namespace Go.Proofs.Ytgmlbimgcifenaa
open Go.RowKit
structure LiesM (w : World) (B : Nat) (q : Ms.S) : Prop where
  ins : Lies w B 3 q.ai q.m.ins.length (Gm.inCells q.m.ins)
  log : LiesS w B q.al q.m.log.length q.m.log
  data : Lies w B 1 q.ad q.m.data.length (Im.u8s q.m.data)
  fi : q.m.ins.length ≤ maxLen
  fl : q.m.log.length ≤ maxLen
  fd : q.m.data.length ≤ maxLen
theorem Slim.ret_const {P : Program} {Q : Exit → Act → World → Prop} {a : Act} {w : World} {id : Nat} {o : Oper} {t : Nat} {v : Value} (ho : o.op = .assign (.const v)) (hd : o.dst = some t) (ht : t < a.tmps.size) (h : ∀ a', Slim.On a a' t v → Q .ret a' w) (hg : o.guard = none := by rfl) :
    (Code.seq (Code.region id [o].toArray false) Code.ret).wp P Q a w := by
  refine wp_seq_k fun K hK => ?_
  refine wp_region_lit ?_
  refine Slim.val (t := t) (v := v) hd ht (Slim.wants_all hg) (by unfold execOp; simp only [ho]; rfl) fun a' o' => ?_
  exact hK _ _ (wp_ret (h a' o'))
theorem in3_info : (Try.prog.info? 50).map (·.size) = some 3 := by kernel_rfl
theorem en26_info : (Try.prog.info? 53).map (·.size) = some 26 := by kernel_rfl
theorem refmayin_is (p : Gm.In) (hty : Gm.tyIn p) (w : World) : Calls Try.prog 28 #[.agg #[.int .i8 p.x, .int .i8 p.y, .int .u8 p.b]] w fun e w' => e = .returned (.bool (Ms.inB p)) ∧ Below w.heap.size w w' :=
  refmayin_any p.x p.y p.b w hty.1.1 hty.2.1.1
theorem add_one {P : Program} {w : World} {ty : TypeId} {p q : Operand} (k : Nat) (hk : (k : Int) < 9223372036854775807) : (do eqGuard .add ty p q (.int .i64 (k : Int)) (.int .i64 1); binOp .add ty (.int .i64 (k : Int)) (.int .i64 1) : Sem Value).run P w = .ok (.int .i64 ((k + 1 : Nat) : Int)) w := by
  have h1 : wrap64 ((k : Int) + 1) = ((k + 1 : Nat) : Int) := by rw [IntWalk.wrap64_in _ (by omega)]; rfl
  go_simp
  rw [IntKind.wrap_i64]; omega
theorem add_frame {P : Program} {w : World} {ty : TypeId} {p q : Operand} {f k : Int} (h : 0 ≤ f + k ∧ f + k ≤ 9223372036854775807) : (do eqGuard .add ty p q (.int .i64 f) (.int .i64 k); binOp .add ty (.int .i64 f) (.int .i64 k) : Sem Value).run P w = .ok (.int .i64 (f + k)) w := by
  have h1 : wrap64 (f + k) = f + k := IntWalk.wrap64_in _ (by omega)
  go_simp
  rw [IntKind.wrap_i64]; omega
theorem msg_info : (Try.prog.info? 29).map (·.size) = some 16 := by kernel_rfl
theorem refmay12_any (q : Ms.S) (w : World) (hT : Ms.Ty q.m) (hL : LiesM w w.heap.size q) :
    Calls Try.prog 13 #[.agg q.cells] w fun e w' => e = .returned (.bool (Ms.okB q.m)) ∧ Below w.heap.size w w' := by
  have hi := hL.fi
  have hl := hL.fl
  have hd := hL.fd
  have LI := qh hL.ins
  have LL := qh hL.log
  have TI := qh hT.ins
  have TL := qh hT.log
  clear hT hL
  have KB := qh (one_below w (.cells q.cells 29))
  have BX := qh (Box.made w 29 q.cells)
  obtain ⟨m, ai, ci, al, cl, ad, cd⟩ := q
  dsimp only at hi hl hd LI LL TI TL ⊢
  unfold maxLen at hi hl hd
  go_enter Try.func13, Try.ntmps13
  go_upto_region 1 with fail
  generalize hW : w.alloc (.cells (Ms.S.cells ⟨m, ai, ci, al, cl, ad, cd⟩) 29) = W0 at *
  generalize hBs : w.heap.size = B at *
  have k0 : W0.cell? ⟨B, 0, none⟩ = some (.int .i64 m.kind) := BX.out.cell 0
  have HBS := qh hBs
  clear hW hBs
  go_upto_region 2 with fail
  clear k0
  refine Slim.forget 189 rfl rfl fun a0 S D hf => ?_
  have H1 : Slim.Has a0 1 true (.pointer (some ⟨B, 0, none⟩)) := hf 1 _ rfl
  have H3 : Slim.Has a0 3 true (.int .i64 m.kind) := hf 3 _ rfl
  clear hf
  refine wp_region_lit ?_
  refine Slim.va rfl rfl S D (Slim.move_g rfl H3 id) fun a1 o S D H8 => ?_
  replace H1 := o.st H1
  replace H3 := o.st H3
  refine Slim.va rfl rfl S D (Slim.bin_g rfl H8 id (fun _ _ => Slim.cmp_lss)) fun a2 o S D H9 => ?_
  replace H1 := o.st H1
  replace H3 := o.st H3
  clear H8 o
  refine Slim.va rfl rfl S D (Slim.move_g rfl H9 id) fun a3 o S D H10 => ?_
  replace H1 := o.st H1
  replace H3 := o.st H3
  clear H9 o
  refine Slim.vg rfl S D rfl rfl H10 (Slim.move_g rfl H3 (fun _ => rfl)) fun a4 o S D H11 => ?_
  replace H1 := o.st H1
  replace H3 := o.st H3
  replace H10 := o.st H10
  refine Slim.vg rfl S D rfl rfl H10 (Slim.bin_g rfl H11 id (fun _ _ => Slim.cmp_gtr)) fun a5 o S D H12 => ?_
  replace H1 := o.st H1
  replace H3 := o.st H3
  replace H10 := o.st H10
  clear H11 o
  refine Slim.va rfl rfl S D (Slim.or_g rfl H10 H12 id (fun h1 h2 => Bool.and_eq_true_iff.2 ⟨h1, by rw [h2]; rfl⟩)) fun a6 o S D H13 => ?_
  replace H1 := o.st H1
  replace H3 := o.st H3
  clear H10 H12 o
  refine Slim.va rfl rfl S D (Slim.move_g rfl H13 id) fun a7 o S D H14 => ?_
  replace H1 := o.st H1
  replace H3 := o.st H3
  clear H13 o
  refine Slim.vg (v := .pointer (some ⟨B, 1, none⟩)) rfl S D rfl rfl H14 (Slim.field_g rfl H1 (fun _ => rfl) (by go_simp; first | done | rfl)) fun a8 o S D H15 => ?_
  replace H1 := o.st H1
  replace H3 := o.st H3
  replace H14 := o.st H14
  refine Slim.vg (v := .int .i64 m.frm) rfl S D rfl rfl H14 (Slim.load_g rfl H15 id (by have k := BX.out.cell 1; go_simp; first | done | rfl)) fun a9 o S D H16 => ?_
  replace H1 := o.st H1
  replace H3 := o.st H3
  replace H14 := o.st H14
  clear H15 o
  refine Slim.vg rfl S D rfl rfl H14 (Slim.bin_g rfl H16 id (fun _ _ => Slim.cmp_lss)) fun a10 o S D H17 => ?_
  replace H1 := o.st H1
  replace H3 := o.st H3
  replace H14 := o.st H14
  clear H16 o
  refine Slim.va rfl rfl S D (Slim.or_g rfl H14 H17 id (fun h1 h2 => Bool.and_eq_true_iff.2 ⟨h1, by rw [h2]; rfl⟩)) fun a11 o S D H18 => ?_
  replace H1 := o.st H1
  replace H3 := o.st H3
  clear H14 H17 o
  refine Slim.va rfl rfl S D (Slim.move_g rfl H18 id) fun a12 o S D H19 => ?_
  replace H1 := o.st H1
  replace H3 := o.st H3
  clear H18 o
  refine Slim.vg (v := .pointer (some ⟨B, 1, none⟩)) rfl S D rfl rfl H19 (Slim.field_g rfl H1 (fun _ => rfl) (by go_simp; first | done | rfl)) fun a13 o S D H20 => ?_
  replace H1 := o.st H1
  replace H3 := o.st H3
  replace H19 := o.st H19
  refine Slim.vg (v := .int .i64 m.frm) rfl S D rfl rfl H19 (Slim.load_g rfl H20 id (by have k := BX.out.cell 1; go_simp; first | done | rfl)) fun a14 o S D H21 => ?_
  replace H1 := o.st H1
  replace H3 := o.st H3
  replace H19 := o.st H19
  clear H20 o
  refine Slim.vg rfl S D rfl rfl H19 (Slim.bin_g rfl H21 id (fun _ _ => Slim.cmp_geq)) fun a15 o S D H22 => ?_
  replace H1 := o.st H1
  replace H3 := o.st H3
  replace H19 := o.st H19
  clear H21 o
  refine Slim.va rfl rfl S D (Slim.or_g rfl H19 H22 id (fun h1 h2 => Bool.and_eq_true_iff.2 ⟨h1, by rw [h2]; rfl⟩)) fun a16 o S D H23 => ?_
  replace H1 := o.st H1
  replace H3 := o.st H3
  clear H19 H22 o
  refine Slim.va rfl rfl S D (Slim.move_g rfl H23 id) fun a17 o S D H24 => ?_
  replace H1 := o.st H1
  replace H3 := o.st H3
  clear H23 o
  refine Slim.vg (v := .agg (Ms.S.cells ⟨m, ai, ci, al, cl, ad, cd⟩)) rfl S D rfl rfl H24 (Slim.load_g rfl H1 (fun _ => rfl) (Slim.load_whole BX.out.is Try.underlying29 rfl msg_info)) fun a18 o S D H25 => ?_
  replace H1 := o.st H1
  replace H3 := o.st H3
  replace H24 := o.st H24
  clear o
  refine Slim.call_g (t := 26) (c := (true && (((((decide (m.kind < 1)) || (decide (14 < m.kind))) || (decide (m.frm < 0))) || (decide (12 ≤ m.frm))) == false))) (v := .bool (Ms.bare m)) rfl (by rw [S]; decide) (Slim.wanted_g rfl rfl H24) (Slim.calls1_g rfl H25 id (by go_simp; first | done | rfl)) (fun _ => bare_any ⟨m, ai, ci, al, cl, ad, cd⟩ _ hi hl hd) fun a19 W1 o hb => ?_
  replace BX := qh (BX.out.below hb BX.out.lt); replace KB := qh (KB.out.trans (hb.mono (by have h1 := KB.out.size; have h2 := HBS.out; omega))); clear hb
  replace S := o.size.trans S; replace D := o.defers.trans D
  replace H1 := o.st H1
  replace H3 := o.st H3
  replace H24 := o.st H24
  have H26 : Slim.Has a19 26 (true && (((((decide (m.kind < 1)) || (decide (14 < m.kind))) || (decide (m.frm < 0))) || (decide (12 ≤ m.frm))) == false)) (.bool (Ms.bare m)) := o.here
  clear H25
  refine Slim.vg rfl S D rfl rfl H24 (Slim.not_g rfl H26 id) fun a20 o S D H27 => ?_
  replace H1 := o.st H1
  replace H3 := o.st H3
  replace H24 := o.st H24
  clear H26 o
  refine Slim.va rfl rfl S D (Slim.or_g rfl H24 H27 id (fun h1 h2 => Bool.and_eq_true_iff.2 ⟨h1, by rw [h2]; rfl⟩)) fun a21 o S D H28 => ?_
  replace H1 := o.st H1
  replace H3 := o.st H3
  clear H24 H27 o
  refine Slim.va rfl rfl S D (Slim.move_g rfl H28 id) fun a22 o S D H29 => ?_
  replace H1 := o.st H1
  replace H3 := o.st H3
  clear H28 o
  refine Slim.vg (v := .pointer (some ⟨B, 5, none⟩)) rfl S D rfl rfl H29 (Slim.field_g rfl H1 (fun _ => rfl) (by go_simp; first | done | rfl)) fun a23 o S D H30 => ?_
  replace H1 := o.st H1
  replace H3 := o.st H3
  replace H29 := o.st H29
  refine Slim.vg (v := .int .i64 m.slot) rfl S D rfl rfl H29 (Slim.load_g rfl H30 id (by have k := BX.out.cell 5; go_simp; first | done | rfl)) fun a24 o S D H31 => ?_
  replace H1 := o.st H1
  replace H3 := o.st H3
  replace H29 := o.st H29
  clear H30 o
  refine Slim.vg rfl S D rfl rfl H29 (Slim.bin_g rfl H31 id (fun _ _ => Slim.cmp_lss)) fun a25 o S D H32 => ?_
  replace H1 := o.st H1
  replace H3 := o.st H3
  replace H29 := o.st H29
  clear H31 o
  refine Slim.va rfl rfl S D (Slim.or_g rfl H29 H32 id (fun h1 h2 => Bool.and_eq_true_iff.2 ⟨h1, by rw [h2]; rfl⟩)) fun a26 o S D H33 => ?_
  replace H1 := o.st H1
  replace H3 := o.st H3
  clear H29 H32 o
  refine Slim.va rfl rfl S D (Slim.move_g rfl H33 id) fun a27 o S D H34 => ?_
  replace H1 := o.st H1
  replace H3 := o.st H3
  clear H33 o
  refine Slim.vg (v := .pointer (some ⟨B, 5, none⟩)) rfl S D rfl rfl H34 (Slim.field_g rfl H1 (fun _ => rfl) (by go_simp; first | done | rfl)) fun a28 o S D H35 => ?_
  replace H1 := o.st H1
  replace H3 := o.st H3
  replace H34 := o.st H34
  refine Slim.vg (v := .int .i64 m.slot) rfl S D rfl rfl H34 (Slim.load_g rfl H35 id (by have k := BX.out.cell 5; go_simp; first | done | rfl)) fun a29 o S D H36 => ?_
  replace H1 := o.st H1
  replace H3 := o.st H3
  replace H34 := o.st H34
  clear H35 o
  refine Slim.vg rfl S D rfl rfl H34 (Slim.bin_g rfl H36 id (fun _ _ => Slim.cmp_geq)) fun a30 o S D H37 => ?_
  replace H1 := o.st H1
  replace H3 := o.st H3
  replace H34 := o.st H34
  clear H36 o
  refine Slim.va rfl rfl S D (Slim.or_g rfl H34 H37 id (fun h1 h2 => Bool.and_eq_true_iff.2 ⟨h1, by rw [h2]; rfl⟩)) fun a31 o S D H38 => ?_
  replace H1 := o.st H1
  replace H3 := o.st H3
  clear H34 H37 o
  refine Slim.va rfl rfl S D (Slim.move_g rfl H38 id) fun a32 o S D H39 => ?_
  replace H1 := o.st H1
  replace H3 := o.st H3
  clear H38 o
  refine Slim.vg (v := .pointer (some ⟨B, 7, none⟩)) rfl S D rfl rfl H39 (Slim.field_g rfl H1 (fun _ => rfl) (by go_simp; first | done | rfl)) fun a33 o S D H40 => ?_
  replace H1 := o.st H1
  replace H3 := o.st H3
  replace H39 := o.st H39
  refine Slim.vg (v := .int .i64 m.frame) rfl S D rfl rfl H39 (Slim.load_g rfl H40 id (by have k := BX.out.cell 7; go_simp; first | done | rfl)) fun a34 o S D H41 => ?_
  replace H1 := o.st H1
  replace H3 := o.st H3
  replace H39 := o.st H39
  clear H40 o
  refine Slim.vg rfl S D rfl rfl H39 (Slim.bin_g rfl H41 id (fun _ _ => Slim.cmp_lss)) fun a35 o S D H42 => ?_
  replace H1 := o.st H1
  replace H3 := o.st H3
  replace H39 := o.st H39
  clear H41 o
  refine Slim.va rfl rfl S D (Slim.or_g rfl H39 H42 id (fun h1 h2 => Bool.and_eq_true_iff.2 ⟨h1, by rw [h2]; rfl⟩)) fun a36 o S D H43 => ?_
  replace H1 := o.st H1
  replace H3 := o.st H3
  clear H39 H42 o
  refine Slim.va rfl rfl S D (Slim.move_g rfl H43 id) fun a37 o S D H44 => ?_
  replace H1 := o.st H1
  replace H3 := o.st H3
  clear H43 o
  refine Slim.vg (v := .pointer (some ⟨B, 7, none⟩)) rfl S D rfl rfl H44 (Slim.field_g rfl H1 (fun _ => rfl) (by go_simp; first | done | rfl)) fun a38 o S D H45 => ?_
  replace H1 := o.st H1
  replace H3 := o.st H3
  replace H44 := o.st H44
  refine Slim.vg (v := .int .i64 m.frame) rfl S D rfl rfl H44 (Slim.load_g rfl H45 id (by have k := BX.out.cell 7; go_simp; first | done | rfl)) fun a39 o S D H46 => ?_
  replace H1 := o.st H1
  replace H3 := o.st H3
  replace H44 := o.st H44
  clear H45 o
  refine Slim.vg rfl S D rfl rfl H44 (Slim.bin_g rfl H46 id (fun _ _ => Slim.cmp_gtr)) fun a40 o S D H47 => ?_
  replace H1 := o.st H1
  replace H3 := o.st H3
  replace H44 := o.st H44
  clear H46 o
  refine Slim.va rfl rfl S D (Slim.or_g rfl H44 H47 id (fun h1 h2 => Bool.and_eq_true_iff.2 ⟨h1, by rw [h2]; rfl⟩)) fun a41 o S D H48 => ?_
  replace H1 := o.st H1
  replace H3 := o.st H3
  clear H44 H47 o
  refine Slim.va rfl rfl S D (Slim.move_g rfl H48 id) fun a42 o S D H49 => ?_
  replace H1 := o.st H1
  replace H3 := o.st H3
  clear H48 o
  refine Slim.vg (v := .pointer (some ⟨B, 8, none⟩)) rfl S D rfl rfl H49 (Slim.field_g rfl H1 (fun _ => rfl) (by go_simp; first | done | rfl)) fun a43 o S D H50 => ?_
  replace H1 := o.st H1
  replace H3 := o.st H3
  replace H49 := o.st H49
  refine Slim.vg (v := .int .i64 m.code) rfl S D rfl rfl H49 (Slim.load_g rfl H50 id (by have k := BX.out.cell 8; go_simp; first | done | rfl)) fun a44 o S D H51 => ?_
  replace H1 := o.st H1
  replace H3 := o.st H3
  replace H49 := o.st H49
  clear H50 o
  refine Slim.vg rfl S D rfl rfl H49 (Slim.bin_g rfl H51 id (fun _ _ => Slim.cmp_lss)) fun a45 o S D H52 => ?_
  replace H1 := o.st H1
  replace H3 := o.st H3
  replace H49 := o.st H49
  clear H51 o
  refine Slim.va rfl rfl S D (Slim.or_g rfl H49 H52 id (fun h1 h2 => Bool.and_eq_true_iff.2 ⟨h1, by rw [h2]; rfl⟩)) fun a46 o S D H53 => ?_
  replace H1 := o.st H1
  replace H3 := o.st H3
  clear H49 H52 o
  refine Slim.va rfl rfl S D (Slim.move_g rfl H53 id) fun a47 o S D H54 => ?_
  replace H1 := o.st H1
  replace H3 := o.st H3
  clear H53 o
  refine Slim.vg (v := .pointer (some ⟨B, 8, none⟩)) rfl S D rfl rfl H54 (Slim.field_g rfl H1 (fun _ => rfl) (by go_simp; first | done | rfl)) fun a48 o S D H55 => ?_
  replace H1 := o.st H1
  replace H3 := o.st H3
  replace H54 := o.st H54
  refine Slim.vg (v := .int .i64 m.code) rfl S D rfl rfl H54 (Slim.load_g rfl H55 id (by have k := BX.out.cell 8; go_simp; first | done | rfl)) fun a49 o S D H56 => ?_
  replace H1 := o.st H1
  replace H3 := o.st H3
  replace H54 := o.st H54
  clear H55 o
  refine Slim.vg rfl S D rfl rfl H54 (Slim.bin_g rfl H56 id (fun _ _ => Slim.cmp_gtr)) fun a50 o S D H57 => ?_
  replace H1 := o.st H1
  replace H3 := o.st H3
  replace H54 := o.st H54
  clear H56 o
  refine Slim.va rfl rfl S D (Slim.or_g rfl H54 H57 id (fun h1 h2 => Bool.and_eq_true_iff.2 ⟨h1, by rw [h2]; rfl⟩)) fun a51 o S D H58 => ?_
  replace H1 := o.st H1
  replace H3 := o.st H3
  clear H54 H57 o
  refine Slim.va rfl rfl S D (Slim.move_g rfl H58 id) fun a52 o S D H59 => ?_
  replace H1 := o.st H1
  replace H3 := o.st H3
  clear H58 o
  refine Slim.vg (v := .pointer (some ⟨B, 9, none⟩)) rfl S D rfl rfl H59 (Slim.field_g rfl H1 (fun _ => rfl) (by go_simp; first | done | rfl)) fun a53 o S D H60 => ?_
  replace H1 := o.st H1
  replace H3 := o.st H3
  replace H59 := o.st H59
  refine Slim.vg (v := .int .i64 m.n) rfl S D rfl rfl H59 (Slim.load_g rfl H60 id (by have k := BX.out.cell 9; go_simp; first | done | rfl)) fun a54 o S D H61 => ?_
  replace H1 := o.st H1
  replace H3 := o.st H3
  replace H59 := o.st H59
  clear H60 o
  refine Slim.vg rfl S D rfl rfl H59 (Slim.bin_g rfl H61 id (fun _ _ => Slim.cmp_lss)) fun a55 o S D H62 => ?_
  replace H1 := o.st H1
  replace H3 := o.st H3
  replace H59 := o.st H59
  clear H61 o
  refine Slim.va rfl rfl S D (Slim.or_g rfl H59 H62 id (fun h1 h2 => Bool.and_eq_true_iff.2 ⟨h1, by rw [h2]; rfl⟩)) fun a56 o S D H63 => ?_
  replace H1 := o.st H1
  replace H3 := o.st H3
  clear H59 H62 o
  refine Slim.va rfl rfl S D (Slim.move_g rfl H63 id) fun a57 o S D H64 => ?_
  replace H1 := o.st H1
  replace H3 := o.st H3
  clear H63 o
  refine Slim.vg (v := .pointer (some ⟨B, 9, none⟩)) rfl S D rfl rfl H64 (Slim.field_g rfl H1 (fun _ => rfl) (by go_simp; first | done | rfl)) fun a58 o S D H65 => ?_
  replace H1 := o.st H1
  replace H3 := o.st H3
  replace H64 := o.st H64
  refine Slim.vg (v := .int .i64 m.n) rfl S D rfl rfl H64 (Slim.load_g rfl H65 id (by have k := BX.out.cell 9; go_simp; first | done | rfl)) fun a59 o S D H66 => ?_
  replace H1 := o.st H1
  replace H3 := o.st H3
  replace H64 := o.st H64
  clear H65 o
  refine Slim.vg rfl S D rfl rfl H64 (Slim.bin_g rfl H66 id (fun _ _ => Slim.cmp_gtr)) fun a60 o S D H67 => ?_
  replace H1 := o.st H1
  replace H3 := o.st H3
  replace H64 := o.st H64
  clear H66 o
  refine Slim.va rfl rfl S D (Slim.or_g rfl H64 H67 id (fun h1 h2 => Bool.and_eq_true_iff.2 ⟨h1, by rw [h2]; rfl⟩)) fun a61 o S D H68 => ?_
  replace H1 := o.st H1
  replace H3 := o.st H3
  clear H64 H67 o
  refine wpList_nil ?_
  refine (by assumption : ∀ a w, Code.wp Try.prog (Code.cond _ _ _) _ a w → _) _ _ ?_
  refine wp_cond_split (Slim.pres H68 rfl) (fun e68 => ?_) (fun e68 => ?_)
  · exact Slim.ret_const (t := 2) rfl rfl (by rw [S]; decide) fun a' o => by
      (try simp only [Exit.inBlock, Exit.then])
      exact on_ret rfl (o.defers.trans D) o.here ⟨ret_bool (Ms.okB_no fun h => absurd h.n1 (by rw [show Ms.no1 m = true from e68]; decide)), by rw [HBS.out]; exact KB.out⟩
  refine wp_skip ?_
  refine (by assumption : ∀ a w, Code.wp Try.prog _ _ a w → _) _ _ ?_
  apply wp_seq_k; intro _ _
  apply wp_seq_k; intro _ _
  refine wp_region_lit ?_
  refine Slim.va rfl rfl S D (Slim.move_g rfl H3 id) fun a62 o S D H69 => ?_
  replace H1 := o.st H1
  replace H3 := o.st H3
  clear o
  refine Slim.call0_g (t := 70) (c := true) (v := .bool ((Ms.has m.kind).contains 103)) rfl (by rw [S]; decide) (Slim.wants_all rfl) (Slim.calls2_g rfl H69 id (by go_simp; first | done | rfl)) (fun _ => with_any m.kind 103 _) fun a63 o => ?_
  replace S := o.size.trans S; replace D := o.defers.trans D
  replace H1 := o.st H1
  replace H3 := o.st H3
  have H70 : Slim.Has a63 70 true (.bool ((Ms.has m.kind).contains 103)) := o.here
  clear H69
  refine Slim.va rfl rfl S D (Slim.move_g rfl H70 id) fun a64 o S D H71 => ?_
  replace H1 := o.st H1
  replace H3 := o.st H3
  clear H70 o
  refine Slim.vg (v := .pointer (some ⟨B, 6, none⟩)) rfl S D rfl rfl H71 (Slim.field_g rfl H1 (fun _ => rfl) (by go_simp; first | done | rfl)) fun a65 o S D H72 => ?_
  replace H1 := o.st H1
  replace H3 := o.st H3
  replace H71 := o.st H71
  refine Slim.vg (v := .int .i64 m.gen) rfl S D rfl rfl H71 (Slim.load_g rfl H72 id (by have k := BX.out.cell 6; go_simp; first | done | rfl)) fun a66 o S D H73 => ?_
  replace H1 := o.st H1
  replace H3 := o.st H3
  replace H71 := o.st H71
  clear H72 o
  refine Slim.vg rfl S D rfl rfl H71 (Slim.bin_g rfl H73 id (fun _ _ => Slim.cmp_lss)) fun a67 o S D H74 => ?_
  replace H1 := o.st H1
  replace H3 := o.st H3
  replace H71 := o.st H71
  clear H73 o
  refine Slim.vg rfl S D rfl rfl H71 (Slim.move_g rfl H74 id) fun a68 o S D H75 => ?_
  replace H1 := o.st H1
  replace H3 := o.st H3
  replace H71 := o.st H71
  clear H74 o
  refine Slim.vg (v := .pointer (some ⟨B, 6, none⟩)) rfl S D rfl rfl H75 (Slim.field_g rfl H1 (fun _ => rfl) (by go_simp; first | done | rfl)) fun a69 o S D H76 => ?_
  replace H1 := o.st H1
  replace H3 := o.st H3
  replace H71 := o.st H71
  replace H75 := o.st H75
  refine Slim.vg (v := .int .i64 m.gen) rfl S D rfl rfl H75 (Slim.load_g rfl H76 id (by have k := BX.out.cell 6; go_simp; first | done | rfl)) fun a70 o S D H77 => ?_
  replace H1 := o.st H1
  replace H3 := o.st H3
  replace H71 := o.st H71
  replace H75 := o.st H75
  clear H76 o
  refine Slim.vg rfl S D rfl rfl H75 (Slim.bin_g rfl H77 id (fun _ _ => Slim.cmp_gtr)) fun a71 o S D H78 => ?_
  replace H1 := o.st H1
  replace H3 := o.st H3
  replace H71 := o.st H71
  replace H75 := o.st H75
  clear H77 o
  refine Slim.vg rfl S D rfl rfl H71 (Slim.or_g rfl H75 H78 id (fun h1 h2 => Bool.and_eq_true_iff.2 ⟨h1, by rw [h2]; rfl⟩)) fun a72 o S D H79 => ?_
  replace H1 := o.st H1
  replace H3 := o.st H3
  replace H71 := o.st H71
  clear H75 H78 o
  refine Slim.va rfl rfl S D (Slim.and_g rfl H71 H79 id (fun h1 h2 => Bool.and_eq_true_iff.2 ⟨h1, by rw [h2]; rfl⟩)) fun a73 o S D H80 => ?_
  replace H1 := o.st H1
  replace H3 := o.st H3
  clear H71 H79 o
  refine Slim.va rfl rfl S D (Slim.move_g rfl H80 id) fun a74 o S D H81 => ?_
  replace H1 := o.st H1
  replace H3 := o.st H3
  clear H80 o
  refine Slim.vg rfl S D rfl rfl H81 (Slim.move_g rfl H3 (fun _ => rfl)) fun a75 o S D H82 => ?_
  replace H1 := o.st H1
  replace H3 := o.st H3
  replace H81 := o.st H81
  clear o
  refine Slim.call0_g (t := 83) (c := (true && ((((Ms.has m.kind).contains 103) && ((decide (m.gen < 1)) || (decide (60000 < m.gen)))) == false))) (v := .bool ((Ms.has m.kind).contains 111)) rfl (by rw [S]; decide) (Slim.wanted_g rfl rfl H81) (Slim.calls2_g rfl H82 id (by go_simp; first | done | rfl)) (fun _ => with_any m.kind 111 _) fun a76 o => ?_
  replace S := o.size.trans S; replace D := o.defers.trans D
  replace H1 := o.st H1
  replace H3 := o.st H3
  replace H81 := o.st H81
  have H83 : Slim.Has a76 83 (true && ((((Ms.has m.kind).contains 103) && ((decide (m.gen < 1)) || (decide (60000 < m.gen)))) == false)) (.bool ((Ms.has m.kind).contains 111)) := o.here
  clear H82
  refine Slim.vg rfl S D rfl rfl H81 (Slim.move_g rfl H83 id) fun a77 o S D H84 => ?_
  replace H1 := o.st H1
  replace H3 := o.st H3
  replace H81 := o.st H81
  clear H83 o
  refine Slim.vg (v := .pointer (some ⟨B, 10, none⟩)) rfl S D rfl rfl H84 (Slim.field_g rfl H1 (fun _ => rfl) (by go_simp; first | done | rfl)) fun a78 o S D H85 => ?_
  replace H1 := o.st H1
  replace H3 := o.st H3
  replace H81 := o.st H81
  replace H84 := o.st H84
  refine Slim.vg (v := .int .i64 m.of) rfl S D rfl rfl H84 (Slim.load_g rfl H85 id (by have k := BX.out.cell 10; go_simp; first | done | rfl)) fun a79 o S D H86 => ?_
  replace H1 := o.st H1
  replace H3 := o.st H3
  replace H81 := o.st H81
  replace H84 := o.st H84
  clear H85 o
  refine Slim.vg rfl S D rfl rfl H84 (Slim.bin_g rfl H86 id (fun _ _ => Slim.cmp_lss)) fun a80 o S D H87 => ?_
  replace H1 := o.st H1
  replace H3 := o.st H3
  replace H81 := o.st H81
  replace H84 := o.st H84
  clear H86 o
  refine Slim.vg rfl S D rfl rfl H84 (Slim.move_g rfl H87 id) fun a81 o S D H88 => ?_
  replace H1 := o.st H1
  replace H3 := o.st H3
  replace H81 := o.st H81
  replace H84 := o.st H84
  clear H87 o
  refine Slim.vg (v := .pointer (some ⟨B, 10, none⟩)) rfl S D rfl rfl H88 (Slim.field_g rfl H1 (fun _ => rfl) (by go_simp; first | done | rfl)) fun a82 o S D H89 => ?_
  replace H1 := o.st H1
  replace H3 := o.st H3
  replace H81 := o.st H81
  replace H84 := o.st H84
  replace H88 := o.st H88
  refine Slim.vg (v := .int .i64 m.of) rfl S D rfl rfl H88 (Slim.load_g rfl H89 id (by have k := BX.out.cell 10; go_simp; first | done | rfl)) fun a83 o S D H90 => ?_
  replace H1 := o.st H1
  replace H3 := o.st H3
  replace H81 := o.st H81
  replace H84 := o.st H84
  replace H88 := o.st H88
  clear H89 o
  refine Slim.vg rfl S D rfl rfl H88 (Slim.bin_g rfl H90 id (fun _ _ => Slim.cmp_gtr)) fun a84 o S D H91 => ?_
  replace H1 := o.st H1
  replace H3 := o.st H3
  replace H81 := o.st H81
  replace H84 := o.st H84
  replace H88 := o.st H88
  clear H90 o
  refine Slim.vg rfl S D rfl rfl H84 (Slim.or_g rfl H88 H91 id (fun h1 h2 => Bool.and_eq_true_iff.2 ⟨h1, by rw [h2]; rfl⟩)) fun a85 o S D H92 => ?_
  replace H1 := o.st H1
  replace H3 := o.st H3
  replace H81 := o.st H81
  replace H84 := o.st H84
  clear H88 H91 o
  refine Slim.vg rfl S D rfl rfl H84 (Slim.move_g rfl H92 id) fun a86 o S D H93 => ?_
  replace H1 := o.st H1
  replace H3 := o.st H3
  replace H81 := o.st H81
  replace H84 := o.st H84
  clear H92 o
  refine Slim.vg (v := .pointer (some ⟨B, 10, none⟩)) rfl S D rfl rfl H93 (Slim.field_g rfl H1 (fun _ => rfl) (by go_simp; first | done | rfl)) fun a87 o S D H94 => ?_
  replace H1 := o.st H1
  replace H3 := o.st H3
  replace H81 := o.st H81
  replace H84 := o.st H84
  replace H93 := o.st H93
  refine Slim.vg (v := .int .i64 m.of) rfl S D rfl rfl H93 (Slim.load_g rfl H94 id (by have k := BX.out.cell 10; go_simp; first | done | rfl)) fun a88 o S D H95 => ?_
  replace H1 := o.st H1
  replace H3 := o.st H3
  replace H81 := o.st H81
  replace H84 := o.st H84
  replace H93 := o.st H93
  clear H94 o
  refine Slim.vg (v := .pointer (some ⟨B, 9, none⟩)) rfl S D rfl rfl H93 (Slim.field_g rfl H1 (fun _ => rfl) (by go_simp; first | done | rfl)) fun a89 o S D H96 => ?_
  replace H1 := o.st H1
  replace H3 := o.st H3
  replace H81 := o.st H81
  replace H84 := o.st H84
  replace H93 := o.st H93
  replace H95 := o.st H95
  refine Slim.vg (v := .int .i64 m.n) rfl S D rfl rfl H93 (Slim.load_g rfl H96 id (by have k := BX.out.cell 9; go_simp; first | done | rfl)) fun a90 o S D H97 => ?_
  replace H1 := o.st H1
  replace H3 := o.st H3
  replace H81 := o.st H81
  replace H84 := o.st H84
  replace H93 := o.st H93
  replace H95 := o.st H95
  clear H96 o
  refine Slim.vg rfl S D rfl rfl H93 (Slim.bin2_g rfl H95 H97 id id (fun _ _ => Slim.cmp_leq)) fun a91 o S D H98 => ?_
  replace H1 := o.st H1
  replace H3 := o.st H3
  replace H81 := o.st H81
  replace H84 := o.st H84
  replace H93 := o.st H93
  clear H95 H97 o
  refine Slim.vg rfl S D rfl rfl H84 (Slim.or_g rfl H93 H98 id (fun h1 h2 => Bool.and_eq_true_iff.2 ⟨h1, by rw [h2]; rfl⟩)) fun a92 o S D H99 => ?_
  replace H1 := o.st H1
  replace H3 := o.st H3
  replace H81 := o.st H81
  replace H84 := o.st H84
  clear H93 H98 o
  refine Slim.vg rfl S D rfl rfl H81 (Slim.and_g rfl H84 H99 id (fun h1 h2 => Bool.and_eq_true_iff.2 ⟨h1, by rw [h2]; rfl⟩)) fun a93 o S D H100 => ?_
  replace H1 := o.st H1
  replace H3 := o.st H3
  replace H81 := o.st H81
  clear H84 H99 o
  refine Slim.va rfl rfl S D (Slim.or_g rfl H81 H100 id (fun h1 h2 => Bool.and_eq_true_iff.2 ⟨h1, by rw [h2]; rfl⟩)) fun a94 o S D H101 => ?_
  replace H1 := o.st H1
  replace H3 := o.st H3
  clear H81 H100 o
  refine Slim.va rfl rfl S D (Slim.move_g rfl H101 id) fun a95 o S D H102 => ?_
  replace H1 := o.st H1
  replace H3 := o.st H3
  clear H101 o
  refine Slim.vg rfl S D rfl rfl H102 (Slim.move_g rfl H3 (fun _ => rfl)) fun a96 o S D H103 => ?_
  replace H1 := o.st H1
  replace H3 := o.st H3
  replace H102 := o.st H102
  clear o
  refine Slim.call0_g (t := 104) (c := (true && (((((Ms.has m.kind).contains 103) && ((decide (m.gen < 1)) || (decide (60000 < m.gen)))) || (((Ms.has m.kind).contains 111) && (((decide (m.of < 1)) || (decide (65535 < m.of))) || (decide (m.of ≤ m.n))))) == false))) (v := .bool ((Ms.has m.kind).contains 100)) rfl (by rw [S]; decide) (Slim.wanted_g rfl rfl H102) (Slim.calls2_g rfl H103 id (by go_simp; first | done | rfl)) (fun _ => with_any m.kind 100 _) fun a97 o => ?_
  replace S := o.size.trans S; replace D := o.defers.trans D
  replace H1 := o.st H1
  replace H3 := o.st H3
  replace H102 := o.st H102
  have H104 : Slim.Has a97 104 (true && (((((Ms.has m.kind).contains 103) && ((decide (m.gen < 1)) || (decide (60000 < m.gen)))) || (((Ms.has m.kind).contains 111) && (((decide (m.of < 1)) || (decide (65535 < m.of))) || (decide (m.of ≤ m.n))))) == false)) (.bool ((Ms.has m.kind).contains 100)) := o.here
  clear H103
  refine Slim.vg rfl S D rfl rfl H102 (Slim.move_g rfl H104 id) fun a98 o S D H105 => ?_
  replace H1 := o.st H1
  replace H3 := o.st H3
  replace H102 := o.st H102
  clear H104 o
  refine Slim.vg (v := .pointer (some ⟨B, 15, none⟩)) rfl S D rfl rfl H105 (Slim.field_g rfl H1 (fun _ => rfl) (by go_simp; first | done | rfl)) fun a99 o S D H106 => ?_
  replace H1 := o.st H1
  replace H3 := o.st H3
  replace H102 := o.st H102
  replace H105 := o.st H105
  refine Slim.vg (v := .slice ad m.data.length cd) rfl S D rfl rfl H105 (Slim.load_g rfl H106 id (by have k := BX.out.cell 15; go_simp; first | done | rfl)) fun a100 o S D H107 => ?_
  replace H1 := o.st H1
  replace H3 := o.st H3
  replace H102 := o.st H102
  replace H105 := o.st H105
  clear H106 o
  refine Slim.vg (v := .int .i64 (m.data.length : Int)) rfl S D rfl rfl H105 (Slim.len_g rfl H107 id (by go_simp; first | done | rfl)) fun a101 o S D H108 => ?_
  replace H1 := o.st H1
  replace H3 := o.st H3
  replace H102 := o.st H102
  replace H105 := o.st H105
  clear H107 o
  refine Slim.vg rfl S D rfl rfl H105 (Slim.bin_g rfl H108 id (fun _ _ => Slim.cmp_lss)) fun a102 o S D H109 => ?_
  replace H1 := o.st H1
  replace H3 := o.st H3
  replace H102 := o.st H102
  replace H105 := o.st H105
  clear H108 o
  refine Slim.vg rfl S D rfl rfl H105 (Slim.move_g rfl H109 id) fun a103 o S D H110 => ?_
  replace H1 := o.st H1
  replace H3 := o.st H3
  replace H102 := o.st H102
  replace H105 := o.st H105
  clear H109 o
  refine Slim.vg (v := .pointer (some ⟨B, 15, none⟩)) rfl S D rfl rfl H110 (Slim.field_g rfl H1 (fun _ => rfl) (by go_simp; first | done | rfl)) fun a104 o S D H111 => ?_
  replace H1 := o.st H1
  replace H3 := o.st H3
  replace H102 := o.st H102
  replace H105 := o.st H105
  replace H110 := o.st H110
  refine Slim.vg (v := .slice ad m.data.length cd) rfl S D rfl rfl H110 (Slim.load_g rfl H111 id (by have k := BX.out.cell 15; go_simp; first | done | rfl)) fun a105 o S D H112 => ?_
  replace H1 := o.st H1
  replace H3 := o.st H3
  replace H102 := o.st H102
  replace H105 := o.st H105
  replace H110 := o.st H110
  clear H111 o
  refine Slim.vg (v := .int .i64 (m.data.length : Int)) rfl S D rfl rfl H110 (Slim.len_g rfl H112 id (by go_simp; first | done | rfl)) fun a106 o S D H113 => ?_
  replace H1 := o.st H1
  replace H3 := o.st H3
  replace H102 := o.st H102
  replace H105 := o.st H105
  replace H110 := o.st H110
  clear H112 o
  refine Slim.vg rfl S D rfl rfl H110 (Slim.bin_g rfl H113 id (fun _ _ => Slim.cmp_gtr)) fun a107 o S D H114 => ?_
  replace H1 := o.st H1
  replace H3 := o.st H3
  replace H102 := o.st H102
  replace H105 := o.st H105
  replace H110 := o.st H110
  clear H113 o
  refine Slim.vg rfl S D rfl rfl H105 (Slim.or_g rfl H110 H114 id (fun h1 h2 => Bool.and_eq_true_iff.2 ⟨h1, by rw [h2]; rfl⟩)) fun a108 o S D H115 => ?_
  replace H1 := o.st H1
  replace H3 := o.st H3
  replace H102 := o.st H102
  replace H105 := o.st H105
  clear H110 H114 o
  refine Slim.vg rfl S D rfl rfl H102 (Slim.and_g rfl H105 H115 id (fun h1 h2 => Bool.and_eq_true_iff.2 ⟨h1, by rw [h2]; rfl⟩)) fun a109 o S D H116 => ?_
  replace H1 := o.st H1
  replace H3 := o.st H3
  replace H102 := o.st H102
  clear H105 H115 o
  refine Slim.va rfl rfl S D (Slim.or_g rfl H102 H116 id (fun h1 h2 => Bool.and_eq_true_iff.2 ⟨h1, by rw [h2]; rfl⟩)) fun a110 o S D H117 => ?_
  replace H1 := o.st H1
  replace H3 := o.st H3
  clear H102 H116 o
  refine wpList_nil ?_
  refine (by assumption : ∀ a w, Code.wp Try.prog (Code.cond _ _ _) _ a w → _) _ _ ?_
  refine wp_cond_split (Slim.pres H117 rfl) (fun e117 => ?_) (fun e117 => ?_)
  · exact Slim.ret_const (t := 2) rfl rfl (by rw [S]; decide) fun a' o => by
      (try simp only [Exit.inBlock, Exit.then])
      exact on_ret rfl (o.defers.trans D) o.here ⟨ret_bool (Ms.okB_no fun h => absurd h.n2 (by rw [show Ms.no2 m = true from e117]; decide)), by rw [HBS.out]; exact KB.out⟩
  refine wp_skip ?_
  refine (by assumption : ∀ a w, Code.wp Try.prog _ _ a w → _) _ _ ?_
  apply wp_seq_k; intro _ _
  apply wp_seq_k; intro _ _
  refine wp_region_lit ?_
  refine Slim.va rfl rfl S D (Slim.move_g rfl H3 id) fun a111 o S D H118 => ?_
  replace H1 := o.st H1
  replace H3 := o.st H3
  clear o
  refine Slim.call0_g (t := 119) (c := true) (v := .bool ((Ms.has m.kind).contains 105)) rfl (by rw [S]; decide) (Slim.wants_all rfl) (Slim.calls2_g rfl H118 id (by go_simp; first | done | rfl)) (fun _ => with_any m.kind 105 _) fun a112 o => ?_
  replace S := o.size.trans S; replace D := o.defers.trans D
  replace H1 := o.st H1
  replace H3 := o.st H3
  have H119 : Slim.Has a112 119 true (.bool ((Ms.has m.kind).contains 105)) := o.here
  clear H118
  refine Slim.va rfl rfl S D (Slim.move_g rfl H119 id) fun a113 o S D H120 => ?_
  replace H1 := o.st H1
  replace H3 := o.st H3
  clear H119 o
  refine Slim.vg (v := .pointer (some ⟨B, 13, none⟩)) rfl S D rfl rfl H120 (Slim.field_g rfl H1 (fun _ => rfl) (by go_simp; first | done | rfl)) fun a114 o S D H121 => ?_
  replace H1 := o.st H1
  replace H3 := o.st H3
  replace H120 := o.st H120
  refine Slim.vg (v := .slice ai m.ins.length ci) rfl S D rfl rfl H120 (Slim.load_g rfl H121 id (by have k := BX.out.cell 13; go_simp; first | done | rfl)) fun a115 o S D H122 => ?_
  replace H1 := o.st H1
  replace H3 := o.st H3
  replace H120 := o.st H120
  clear H121 o
  refine Slim.vg (v := .int .i64 (m.ins.length : Int)) rfl S D rfl rfl H120 (Slim.len_g rfl H122 id (by go_simp; first | done | rfl)) fun a116 o S D H123 => ?_
  replace H1 := o.st H1
  replace H3 := o.st H3
  replace H120 := o.st H120
  clear H122 o
  refine Slim.vg rfl S D rfl rfl H120 (Slim.bin_g rfl H123 id (fun _ _ => Slim.cmp_lss)) fun a117 o S D H124 => ?_
  replace H1 := o.st H1
  replace H3 := o.st H3
  replace H120 := o.st H120
  clear H123 o
  refine Slim.vg rfl S D rfl rfl H120 (Slim.move_g rfl H124 id) fun a118 o S D H125 => ?_
  replace H1 := o.st H1
  replace H3 := o.st H3
  replace H120 := o.st H120
  clear H124 o
  refine Slim.vg (v := .pointer (some ⟨B, 13, none⟩)) rfl S D rfl rfl H125 (Slim.field_g rfl H1 (fun _ => rfl) (by go_simp; first | done | rfl)) fun a119 o S D H126 => ?_
  replace H1 := o.st H1
  replace H3 := o.st H3
  replace H120 := o.st H120
  replace H125 := o.st H125
  refine Slim.vg (v := .slice ai m.ins.length ci) rfl S D rfl rfl H125 (Slim.load_g rfl H126 id (by have k := BX.out.cell 13; go_simp; first | done | rfl)) fun a120 o S D H127 => ?_
  replace H1 := o.st H1
  replace H3 := o.st H3
  replace H120 := o.st H120
  replace H125 := o.st H125
  clear H126 o
  refine Slim.vg (v := .int .i64 (m.ins.length : Int)) rfl S D rfl rfl H125 (Slim.len_g rfl H127 id (by go_simp; first | done | rfl)) fun a121 o S D H128 => ?_
  replace H1 := o.st H1
  replace H3 := o.st H3
  replace H120 := o.st H120
  replace H125 := o.st H125
  clear H127 o
  refine Slim.vg rfl S D rfl rfl H125 (Slim.bin_g rfl H128 id (fun _ _ => Slim.cmp_gtr)) fun a122 o S D H129 => ?_
  replace H1 := o.st H1
  replace H3 := o.st H3
  replace H120 := o.st H120
  replace H125 := o.st H125
  clear H128 o
  refine Slim.vg rfl S D rfl rfl H120 (Slim.or_g rfl H125 H129 id (fun h1 h2 => Bool.and_eq_true_iff.2 ⟨h1, by rw [h2]; rfl⟩)) fun a123 o S D H130 => ?_
  replace H1 := o.st H1
  replace H3 := o.st H3
  replace H120 := o.st H120
  clear H125 H129 o
  refine Slim.va rfl rfl S D (Slim.and_g rfl H120 H130 id (fun h1 h2 => Bool.and_eq_true_iff.2 ⟨h1, by rw [h2]; rfl⟩)) fun a124 o S D H131 => ?_
  replace H1 := o.st H1
  replace H3 := o.st H3
  clear H120 H130 o
  refine Slim.va rfl rfl S D (Slim.move_g rfl H131 id) fun a125 o S D H132 => ?_
  replace H1 := o.st H1
  replace H3 := o.st H3
  clear H131 o
  refine Slim.vg rfl S D rfl rfl H132 (Slim.move_g rfl H3 (fun _ => rfl)) fun a126 o S D H133 => ?_
  replace H1 := o.st H1
  replace H3 := o.st H3
  replace H132 := o.st H132
  clear o
  refine Slim.call0_g (t := 134) (c := (true && ((((Ms.has m.kind).contains 105) && ((decide ((m.ins.length : Int) < 1)) || (decide (16 < (m.ins.length : Int))))) == false))) (v := .bool ((Ms.has m.kind).contains 108)) rfl (by rw [S]; decide) (Slim.wanted_g rfl rfl H132) (Slim.calls2_g rfl H133 id (by go_simp; first | done | rfl)) (fun _ => with_any m.kind 108 _) fun a127 o => ?_
  replace S := o.size.trans S; replace D := o.defers.trans D
  replace H1 := o.st H1
  replace H3 := o.st H3
  replace H132 := o.st H132
  have H134 : Slim.Has a127 134 (true && ((((Ms.has m.kind).contains 105) && ((decide ((m.ins.length : Int) < 1)) || (decide (16 < (m.ins.length : Int))))) == false)) (.bool ((Ms.has m.kind).contains 108)) := o.here
  clear H133
  refine Slim.vg rfl S D rfl rfl H132 (Slim.move_g rfl H134 id) fun a128 o S D H135 => ?_
  replace H1 := o.st H1
  replace H3 := o.st H3
  replace H132 := o.st H132
  clear H134 o
  refine Slim.vg (v := .pointer (some ⟨B, 14, none⟩)) rfl S D rfl rfl H135 (Slim.field_g rfl H1 (fun _ => rfl) (by go_simp; first | done | rfl)) fun a129 o S D H136 => ?_
  replace H1 := o.st H1
  replace H3 := o.st H3
  replace H132 := o.st H132
  replace H135 := o.st H135
  refine Slim.vg (v := .slice al m.log.length cl) rfl S D rfl rfl H135 (Slim.load_g rfl H136 id (by have k := BX.out.cell 14; go_simp; first | done | rfl)) fun a130 o S D H137 => ?_
  replace H1 := o.st H1
  replace H3 := o.st H3
  replace H132 := o.st H132
  replace H135 := o.st H135
  clear H136 o
  refine Slim.vg (v := .int .i64 (m.log.length : Int)) rfl S D rfl rfl H135 (Slim.len_g rfl H137 id (by go_simp; first | done | rfl)) fun a131 o S D H138 => ?_
  replace H1 := o.st H1
  replace H3 := o.st H3
  replace H132 := o.st H132
  replace H135 := o.st H135
  clear H137 o
  refine Slim.vg rfl S D rfl rfl H135 (Slim.bin_g rfl H138 id (fun _ _ => Slim.cmp_lss)) fun a132 o S D H139 => ?_
  replace H1 := o.st H1
  replace H3 := o.st H3
  replace H132 := o.st H132
  replace H135 := o.st H135
  clear H138 o
  refine Slim.vg rfl S D rfl rfl H135 (Slim.move_g rfl H139 id) fun a133 o S D H140 => ?_
  replace H1 := o.st H1
  replace H3 := o.st H3
  replace H132 := o.st H132
  replace H135 := o.st H135
  clear H139 o
  refine Slim.vg (v := .pointer (some ⟨B, 14, none⟩)) rfl S D rfl rfl H140 (Slim.field_g rfl H1 (fun _ => rfl) (by go_simp; first | done | rfl)) fun a134 o S D H141 => ?_
  replace H1 := o.st H1
  replace H3 := o.st H3
  replace H132 := o.st H132
  replace H135 := o.st H135
  replace H140 := o.st H140
  refine Slim.vg (v := .slice al m.log.length cl) rfl S D rfl rfl H140 (Slim.load_g rfl H141 id (by have k := BX.out.cell 14; go_simp; first | done | rfl)) fun a135 o S D H142 => ?_
  replace H1 := o.st H1
  replace H3 := o.st H3
  replace H132 := o.st H132
  replace H135 := o.st H135
  replace H140 := o.st H140
  clear H141 o
  refine Slim.vg (v := .int .i64 (m.log.length : Int)) rfl S D rfl rfl H140 (Slim.len_g rfl H142 id (by go_simp; first | done | rfl)) fun a136 o S D H143 => ?_
  replace H1 := o.st H1
  replace H3 := o.st H3
  replace H132 := o.st H132
  replace H135 := o.st H135
  replace H140 := o.st H140
  clear H142 o
  refine Slim.vg rfl S D rfl rfl H140 (Slim.bin_g rfl H143 id (fun _ _ => Slim.cmp_gtr)) fun a137 o S D H144 => ?_
  replace H1 := o.st H1
  replace H3 := o.st H3
  replace H132 := o.st H132
  replace H135 := o.st H135
  replace H140 := o.st H140
  clear H143 o
  refine Slim.vg rfl S D rfl rfl H135 (Slim.or_g rfl H140 H144 id (fun h1 h2 => Bool.and_eq_true_iff.2 ⟨h1, by rw [h2]; rfl⟩)) fun a138 o S D H145 => ?_
  replace H1 := o.st H1
  replace H3 := o.st H3
  replace H132 := o.st H132
  replace H135 := o.st H135
  clear H140 H144 o
  refine Slim.vg rfl S D rfl rfl H132 (Slim.and_g rfl H135 H145 id (fun h1 h2 => Bool.and_eq_true_iff.2 ⟨h1, by rw [h2]; rfl⟩)) fun a139 o S D H146 => ?_
  replace H1 := o.st H1
  replace H3 := o.st H3
  replace H132 := o.st H132
  clear H135 H145 o
  refine Slim.va rfl rfl S D (Slim.or_g rfl H132 H146 id (fun h1 h2 => Bool.and_eq_true_iff.2 ⟨h1, by rw [h2]; rfl⟩)) fun a140 o S D H147 => ?_
  replace H1 := o.st H1
  replace H3 := o.st H3
  clear H132 H146 o
  refine wpList_nil ?_
  refine (by assumption : ∀ a w, Code.wp Try.prog (Code.cond _ _ _) _ a w → _) _ _ ?_
  refine wp_cond_split (Slim.pres H147 rfl) (fun e147 => ?_) (fun e147 => ?_)
  · exact Slim.ret_const (t := 2) rfl rfl (by rw [S]; decide) fun a' o => by
      (try simp only [Exit.inBlock, Exit.then])
      exact on_ret rfl (o.defers.trans D) o.here ⟨ret_bool (Ms.okB_no fun h => absurd h.n3 (by rw [show Ms.no3 m = true from e147]; decide)), by rw [HBS.out]; exact KB.out⟩
  have N1 := qh (show Ms.no1 m = false from e68)
  have N2 := qh (show Ms.no2 m = false from e117)
  have N3 := qh (show Ms.no3 m = false from e147)
  clear e68 e117 e147 H3
  refine wp_skip ?_
  refine (by assumption : ∀ a w, Code.wp Try.prog _ _ a w → _) _ _ ?_
  apply wp_seq_k; intro K1 hK1
  apply wp_seq_k; intro K2 hK2
  refine wp_region_lit ?_
  refine Slim.va rfl rfl S D (Slim.constc_g rfl) fun a141 o S D H4 => ?_
  replace H1 := o.st H1
  clear o
  refine wpList_nil ?_
  refine hK2 _ _ ?_
  refine wp_block ?_
  refine wp_loop (fun b V => ∃ k : Nat, b.tmps.size = 189 ∧ b.defers = [] ∧ Slim.Has b 1 true (.pointer (some ⟨B, 0, none⟩)) ∧ Slim.Has b 4 true (.int .i64 (k : Int)) ∧ k ≤ m.ins.length ∧ (∀ t (h : t < m.ins.length), t < k → Ms.inB m.ins[t] = true) ∧ Box V B 29 (Ms.S.cells ⟨m, ai, ci, al, cl, ad, cd⟩) ∧ Below B w V) (fun b _ => m.ins.length - (intOf (b.tmps.getD 4 undef)).toNat) ⟨0, S, D, H1, H4, Nat.zero_le _, fun t h h0 => absurd h0 (by omega), BX.out, KB.out⟩ ?_
  intro a0 V hI
  clear S D H1 H4 BX KB
  obtain ⟨k, S, D, H1, H4, hk, hall, hbx, hkb⟩ := hI
  have BX := qh hbx
  have KB := qh hkb
  have HA := qh hall
  have MU := qh (show m.ins.length - (intOf (a0.tmps.getD 4 undef)).toNat = m.ins.length - k from by rw [show a0.tmps.getD 4 undef = .int .i64 (k : Int) from Slim.pres H4 rfl]; simp [intOf])
  clear hbx hkb hall
  apply wp_seq_k; intro K3 hK3
  apply wp_seq_k; intro K4 hK4
  refine wp_region_lit ?_
  refine Slim.va rfl rfl S D (Slim.move_g rfl H4 id) fun a1 o S D H148 => ?_
  replace H1 := o.st H1
  replace H4 := o.st H4
  refine Slim.va (v := .pointer (some ⟨B, 13, none⟩)) rfl rfl S D (Slim.field_g rfl H1 id (by go_simp; first | done | rfl)) fun a2 o S D H149 => ?_
  replace H1 := o.st H1
  replace H4 := o.st H4
  replace H148 := o.st H148
  refine Slim.va (v := .slice ai m.ins.length ci) rfl rfl S D (Slim.load_g rfl H149 id (by have k := BX.out.cell 13; go_simp; first | done | rfl)) fun a3 o S D H150 => ?_
  replace H1 := o.st H1
  replace H4 := o.st H4
  replace H148 := o.st H148
  clear H149 o
  refine Slim.va (v := .int .i64 (m.ins.length : Int)) rfl rfl S D (Slim.len_g rfl H150 id (by go_simp; first | done | rfl)) fun a4 o S D H151 => ?_
  replace H1 := o.st H1
  replace H4 := o.st H4
  replace H148 := o.st H148
  clear H150 o
  refine Slim.va rfl rfl S D (Slim.bin2_g rfl H148 H151 id id (fun _ _ => Slim.cmp_lss)) fun a5 o S D H152 => ?_
  replace H1 := o.st H1
  replace H4 := o.st H4
  clear H148 H151 o
  refine wpList_nil ?_
  refine hK4 _ _ ?_
  refine wp_cond_split (Slim.pres H152 rfl) (fun e152 => ?_) (fun e152 => ?_)
  · have hkn : k < m.ins.length := by have := of_decide_eq_true e152; omega
    clear e152 H152
    refine wp_skip ?_
    refine hK3 _ _ ?_
    apply wp_seq_k; intro K5 hK5
    refine wp_block ?_
    apply wp_seq_k; intro K6 hK6
    refine wp_region_lit ?_
    have LV := LI.out.below KB.out
    obtain ⟨pa, hai, hadl⟩ := LV.start (by omega)
    obtain ⟨p, hp⟩ : ∃ p, p = m.ins[k] := ⟨_, rfl⟩
    have hcell := qh (show ∀ j v, p.cells[j]? = some v → V.cell? ((pa.add (k * 3)).add j) = some v from fun j v hv => by
      have hj : j < 3 := (List.getElem?_eq_some_iff.1 hv).1
      rw [add_twice]
      exact LV.cell pa hai (by omega) _ v (by rw [Gm.inCells_at _ k j hkn hj, ← hp]; exact hv))
    have hty := qh (TI.out p (by rw [hp]; exact List.getElem_mem hkn))
    have hpk := qh hp
    clear LV hp
    refine Slim.va (v := .pointer (some ⟨B, 13, none⟩)) rfl rfl S D (Slim.field_g rfl H1 id (by go_simp; first | done | rfl)) fun a6 o S D H155 => ?_
    replace H1 := o.st H1
    replace H4 := o.st H4
    refine Slim.va (v := .slice ai m.ins.length ci) rfl rfl S D (Slim.load_g rfl H155 id (by have k := BX.out.cell 13; go_simp; first | done | rfl)) fun a7 o S D H156 => ?_
    replace H1 := o.st H1
    replace H4 := o.st H4
    clear H155 o
    refine Slim.va rfl rfl S D (Slim.move_g rfl H4 id) fun a8 o S D H157 => ?_
    replace H1 := o.st H1
    replace H4 := o.st H4
    replace H156 := o.st H156
    refine Slim.va (v := .pointer (some (pa.add (k * 3)))) rfl rfl S D (Slim.index_g rfl H156 H157 id id (by rw [hai]; go_simp; first | done | rfl)) fun a9 o S D H158 => ?_
    replace H1 := o.st H1
    replace H4 := o.st H4
    clear H156 H157 o
    refine Slim.va (v := .agg #[.int .i8 p.x, .int .i8 p.y, .int .u8 p.b]) rfl rfl S D (Slim.load_g rfl H158 id (Slim.load_any (cs := p.cells) hcell.out Try.underlying50 rfl in3_info)) fun a10 o S D H159 => ?_
    replace H1 := o.st H1
    replace H4 := o.st H4
    clear H158 o
    refine Slim.call_g (t := 160) (c := true) (v := .bool (Ms.inB p)) rfl (by rw [S]; decide) (Slim.wants_all rfl) (Slim.calls1_g rfl H159 id (by go_simp; first | done | rfl)) (fun _ => refmayin_is p hty.out _) fun a11 W1 o hb => ?_
    replace BX := qh (BX.out.below hb BX.out.lt); replace KB := qh (KB.out.trans (hb.mono (by have h1 := KB.out.size; have h2 := HBS.out; omega))); clear hb
    replace S := o.size.trans S; replace D := o.defers.trans D
    replace H1 := o.st H1
    replace H4 := o.st H4
    have H160 : Slim.Has a11 160 true (.bool (Ms.inB p)) := o.here
    clear H159
    refine Slim.va rfl rfl S D (Slim.not_g rfl H160 id) fun a12 o S D H161 => ?_
    replace H1 := o.st H1
    replace H4 := o.st H4
    clear H160 o
    refine wpList_nil ?_
    refine hK6 _ _ ?_
    refine wp_cond_split (Slim.pres H161 rfl) (fun e161 => ?_) (fun e161 => ?_)
    · exact Slim.ret_const (t := 2) rfl rfl (by rw [S]; decide) fun a' o => by
        (try simp only [Exit.inBlock, Exit.then])
        exact on_ret rfl (o.defers.trans D) o.here ⟨ret_bool (Ms.okB_no fun h => absurd (h.ins k hkn) (by rw [← hpk.out]; intro h1; rw [h1] at e161; cases e161)), by rw [HBS.out]; exact KB.out⟩
    · refine wp_skip ?_
      simp only [Exit.inBlock, Exit.then]
      refine hK5 _ _ ?_
      refine wp_region_lit ?_
      refine Slim.va rfl rfl S D (Slim.move_g rfl H4 id) fun a13 o S D H153 => ?_
      replace H1 := o.st H1
      clear H4 o
      refine Slim.va (v := .int .i64 ((k + 1 : Nat) : Int)) rfl rfl S D (Slim.bin_g rfl H153 id (fun _ _ => add_one k (by omega))) fun a14 o S D H154 => ?_
      replace H1 := o.st H1
      clear H153 o
      refine Slim.va rfl rfl S D (Slim.assign_g rfl H154 id) fun a15 o S D H4 => ?_
      replace H1 := o.st H1
      clear H154 o
      refine wpList_nil ?_
      refine ⟨⟨k + 1, S, D, H1, H4, hkn, fun t h ht => ?_, BX.out, KB.out⟩, ?_⟩
      · by_cases e : t = k
        · subst e
          rw [← hpk.out]
          cases hq : Ms.inB p
          · rw [hq] at e161; cases e161
          · rfl
        · exact HA.out t h (by omega)
      · have hm := MU.out
        show _ - (intOf (_ : Value)).toNat < _
        rw [hm, show (_ : Act).tmps.getD 4 undef = .int .i64 ((k + 1 : Nat) : Int) from Slim.pres H4 rfl]
        simp [intOf]; omega
  · have hkn : ¬ k < m.ins.length := by have := of_decide_eq_false e152; omega
    refine wp_exit ?_
    simp only [Exit.inBlock, Exit.then, if_true]
    refine hK1 _ _ ?_
    have IA := qh (show ∀ t (h : t < m.ins.length), Ms.inB m.ins[t] = true from fun t h => HA.out t h (by omega))
    clear MU HA hkn hk H4 e152
    apply wp_seq_k; intro K7 hK7
    apply wp_seq_k; intro K8 hK8
    refine wp_region_lit ?_
    refine Slim.va rfl rfl S D (Slim.constc_g rfl) fun a6 o S D H5 => ?_
    replace H1 := o.st H1
    clear o
    refine wpList_nil ?_
    refine hK8 _ _ ?_
    refine wp_block ?_
    refine wp_loop (fun b V2 => ∃ k : Nat, b.tmps.size = 189 ∧ b.defers = [] ∧ Slim.Has b 1 true (.pointer (some ⟨B, 0, none⟩)) ∧ Slim.Has b 5 true (.int .i64 (k : Int)) ∧ k ≤ m.log.length ∧ (∀ t (h : t < m.log.length), t < k → En.Ok m.log[t].e ∧ m.log[t].e.frame = m.frame + t) ∧ Box V2 B 29 (Ms.S.cells ⟨m, ai, ci, al, cl, ad, cd⟩) ∧ Below B w V2) (fun b _ => m.log.length - (intOf (b.tmps.getD 5 undef)).toNat) ⟨0, S, D, H1, H5, Nat.zero_le _, fun t h h0 => absurd h0 (by omega), BX.out, KB.out⟩ ?_
    intro a0 V2 hI
    clear S D H1 H5 BX KB
    obtain ⟨k, S, D, H1, H5, hk, hall, hbx, hkb⟩ := hI
    have BX := qh hbx
    have KB := qh hkb
    have HA := qh hall
    have MU := qh (show m.log.length - (intOf (a0.tmps.getD 5 undef)).toNat = m.log.length - k from by rw [show a0.tmps.getD 5 undef = .int .i64 (k : Int) from Slim.pres H5 rfl]; simp [intOf])
    clear hbx hkb hall
    apply wp_seq_k; intro K3 hK3
    apply wp_seq_k; intro K4 hK4
    refine wp_region_lit ?_
    refine Slim.va rfl rfl S D (Slim.move_g rfl H5 id) fun a1 o S D H162 => ?_
    replace H1 := o.st H1
    replace H5 := o.st H5
    refine Slim.va (v := .pointer (some ⟨B, 14, none⟩)) rfl rfl S D (Slim.field_g rfl H1 id (by go_simp; first | done | rfl)) fun a2 o S D H163 => ?_
    replace H1 := o.st H1
    replace H5 := o.st H5
    replace H162 := o.st H162
    refine Slim.va (v := .slice al m.log.length cl) rfl rfl S D (Slim.load_g rfl H163 id (by have k := BX.out.cell 14; go_simp; first | done | rfl)) fun a3 o S D H164 => ?_
    replace H1 := o.st H1
    replace H5 := o.st H5
    replace H162 := o.st H162
    clear H163 o
    refine Slim.va (v := .int .i64 (m.log.length : Int)) rfl rfl S D (Slim.len_g rfl H164 id (by go_simp; first | done | rfl)) fun a4 o S D H165 => ?_
    replace H1 := o.st H1
    replace H5 := o.st H5
    replace H162 := o.st H162
    clear H164 o
    refine Slim.va rfl rfl S D (Slim.bin2_g rfl H162 H165 id id (fun _ _ => Slim.cmp_lss)) fun a5 o S D H166 => ?_
    replace H1 := o.st H1
    replace H5 := o.st H5
    clear H162 H165 o
    refine wpList_nil ?_
    refine hK4 _ _ ?_
    refine wp_cond_split (Slim.pres H166 rfl) (fun e166 => ?_) (fun e166 => ?_)
    · have hkn : k < m.log.length := by have := of_decide_eq_true e166; omega
      clear e166 H166
      refine wp_skip ?_
      refine hK3 _ _ ?_
      apply wp_seq_k; intro K5 hK5
      refine wp_block ?_
      apply wp_seq_k; intro K6 hK6
      have LV := LL.out.below KB.out
      have hBV : B ≤ V2.heap.size := Nat.le_of_lt BX.out.lt
      obtain ⟨pa, hal, hadl, hc⟩ := LV.at k hkn
      obtain ⟨e, he⟩ : ∃ e, e = m.log[k] := ⟨_, rfl⟩
      rw [← he] at hc
      have hmem : e ∈ m.log := by rw [he]; exact List.getElem_mem hkn
      have hcell := qh (show ∀ w' : World, (∃ q : Ext V2.heap.size V2, w' = q.w) → ∀ j v, e.cells[j]? = some v → w'.cell? ((pa.add (k * 26)).add j) = some v from by
        rintro _ ⟨q, rfl⟩ j v hv
        refine (q.h.cell (p := (pa.add (k * 26)).add j) ?_).trans (hc j v hv)
        rw [add_block, add_block]; omega)
      have hcell0 := qh (show ∀ w' : World, (∃ q : Ext V2.heap.size V2, w' = q.w) → w'.cell? (pa.add (k * 26)) = some (.int .i64 e.e.frame) from fun w' hw => by
        have h1 := hcell.out w' hw 0 _ rfl
        rwa [show (pa.add (k * 26)).add 0 = pa.add (k * 26) from by unfold Addr.add; rfl] at h1)
      have hfew := qh (LV.few e hmem)
      have hty := qh (TL.out e hmem).ins
      have hlie := qh (fun q : Ext V2.heap.size V2 => ((LV.each e hmem).wider hBV).below q.h |>.wider q.h.size)
      have hfr := qh (Ms.frame_fit N1.out N3.out hk)
      have ZB := qh (show ∀ w' : World, (∃ q : Ext V2.heap.size V2, w' = q.w) → Box w' B 29 (Ms.S.cells ⟨m, ai, ci, al, cl, ad, cd⟩) from by
        rintro _ ⟨q, rfl⟩
        exact BX.out.below q.h BX.out.lt)
      have hek := qh he
      clear LV hc he hmem
      refine wp_region_ext V2.heap.size V2 (by kernel_rfl) (by kernel_rfl) (Below.refl _ _) ?_
      refine Slim.qa (v := .pointer (some ⟨B, 14, none⟩)) rfl rfl S D (fun h0 w hw => (Slim.field_g rfl H1 id (by go_simp; first | done | rfl)) h0) fun a6 o S D H169 => ?_
      replace H1 := o.st H1
      replace H5 := o.st H5
      refine Slim.qa (v := .slice al m.log.length cl) rfl rfl S D (fun h0 w hw => (Slim.load_g rfl H169 id (by have k := (ZB.out w hw).cell 14; go_simp; first | done | rfl)) h0) fun a7 o S D H170 => ?_
      replace H1 := o.st H1
      replace H5 := o.st H5
      clear H169 o
      refine Slim.qa rfl rfl S D (fun h0 w hw => (Slim.move_g rfl H5 id) h0) fun a8 o S D H171 => ?_
      replace H1 := o.st H1
      replace H5 := o.st H5
      replace H170 := o.st H170
      refine Slim.qa (v := .pointer (some (pa.add (k * 26)))) rfl rfl S D (fun h0 w hw => (Slim.index_g rfl H170 H171 id id (by rw [hal]; go_simp; first | done | rfl)) h0) fun a9 o S D H172 => ?_
      replace H1 := o.st H1
      replace H5 := o.st H5
      clear H170 H171 o
      refine Slim.qa (v := .agg (En.cells e.e e.sl)) rfl rfl S D (fun h0 w hw => (Slim.load_g rfl H172 id (Slim.load_any (cs := e.cells) (hcell.out w hw) Try.underlying53 rfl en26_info)) h0) fun a10 o S D H173 => ?_
      replace H1 := o.st H1
      replace H5 := o.st H5
      clear H172 o
      refine Slim.qcall_g (t := 174) (c := true) (v := .bool (decide (En.Ok e.e))) rfl (by rw [S]; decide) (Slim.wants_all rfl) (fun h0 w hw => (Slim.calls1_g rfl H173 id (by go_simp; first | done | rfl)) h0) (fun _ w hw => by obtain ⟨q', rfl⟩ := hw; exact Calls.ext_of (Nat.le_refl _) (refmayen_any e.e e.adr e.e.evs.length e.cap _ rfl hfew.out hty.out (hlie.out q'))) fun a11 o => ?_
      replace S := o.size.trans S; replace D := o.defers.trans D
      replace H1 := o.st H1
      replace H5 := o.st H5
      have H174 : Slim.Has a11 174 true (.bool (decide (En.Ok e.e))) := o.here
      clear H173
      refine Slim.qa rfl rfl S D (fun h0 w hw => (Slim.not_g rfl H174 id) h0) fun a12 o S D H175 => ?_
      replace H1 := o.st H1
      replace H5 := o.st H5
      clear H174 o
      refine Slim.qa rfl rfl S D (fun h0 w hw => (Slim.move_g rfl H175 id) h0) fun a13 o S D H176 => ?_
      replace H1 := o.st H1
      replace H5 := o.st H5
      clear H175 o
      refine Slim.qg (v := .pointer (some ⟨B, 14, none⟩)) rfl S D rfl rfl H176 (fun h0 w hw => (Slim.field_g rfl H1 (fun _ => rfl) (by go_simp; first | done | rfl)) h0) fun a14 o S D H177 => ?_
      replace H1 := o.st H1
      replace H5 := o.st H5
      replace H176 := o.st H176
      refine Slim.qg (v := .slice al m.log.length cl) rfl S D rfl rfl H176 (fun h0 w hw => (Slim.load_g rfl H177 id (by have k := (ZB.out w hw).cell 14; go_simp; first | done | rfl)) h0) fun a15 o S D H178 => ?_
      replace H1 := o.st H1
      replace H5 := o.st H5
      replace H176 := o.st H176
      clear H177 o
      refine Slim.qg rfl S D rfl rfl H176 (fun h0 w hw => (Slim.move_g rfl H5 (fun _ => rfl)) h0) fun a16 o S D H179 => ?_
      replace H1 := o.st H1
      replace H5 := o.st H5
      replace H176 := o.st H176
      replace H178 := o.st H178
      refine Slim.qg (v := .pointer (some (pa.add (k * 26)))) rfl S D rfl rfl H176 (fun h0 w hw => (Slim.index_g rfl H178 H179 id id (by rw [hal]; go_simp; first | done | rfl)) h0) fun a17 o S D H180 => ?_
      replace H1 := o.st H1
      replace H5 := o.st H5
      replace H176 := o.st H176
      clear H178 H179 o
      refine Slim.qg (v := .pointer (some (pa.add (k * 26)))) rfl S D rfl rfl H176 (fun h0 w hw => (Slim.field_g rfl H180 id (by go_simp; first | done | rfl)) h0) fun a18 o S D H181 => ?_
      replace H1 := o.st H1
      replace H5 := o.st H5
      replace H176 := o.st H176
      clear H180 o
      refine Slim.qg (v := .int .i64 e.e.frame) rfl S D rfl rfl H176 (fun h0 w hw => (Slim.load_g rfl H181 id (by have kk := hcell0.out w hw; go_simp; first | done | rfl)) h0) fun a19 o S D H182 => ?_
      replace H1 := o.st H1
      replace H5 := o.st H5
      replace H176 := o.st H176
      clear H181 o
      refine Slim.qg (v := .pointer (some ⟨B, 7, none⟩)) rfl S D rfl rfl H176 (fun h0 w hw => (Slim.field_g rfl H1 (fun _ => rfl) (by go_simp; first | done | rfl)) h0) fun a20 o S D H183 => ?_
      replace H1 := o.st H1
      replace H5 := o.st H5
      replace H176 := o.st H176
      replace H182 := o.st H182
      refine Slim.qg (v := .int .i64 m.frame) rfl S D rfl rfl H176 (fun h0 w hw => (Slim.load_g rfl H183 id (by have k := (ZB.out w hw).cell 7; go_simp; first | done | rfl)) h0) fun a21 o S D H184 => ?_
      replace H1 := o.st H1
      replace H5 := o.st H5
      replace H176 := o.st H176
      replace H182 := o.st H182
      clear H183 o
      refine Slim.qg rfl S D rfl rfl H176 (fun h0 w hw => (Slim.move_g rfl H5 (fun _ => rfl)) h0) fun a22 o S D H185 => ?_
      replace H1 := o.st H1
      replace H5 := o.st H5
      replace H176 := o.st H176
      replace H182 := o.st H182
      replace H184 := o.st H184
      refine Slim.qg (v := .int .i64 (m.frame + (k : Int))) rfl S D rfl rfl H176 (fun h0 w hw => (Slim.bin2_g rfl H184 H185 id id (fun _ _ => add_frame hfr.out)) h0) fun a23 o S D H186 => ?_
      replace H1 := o.st H1
      replace H5 := o.st H5
      replace H176 := o.st H176
      replace H182 := o.st H182
      clear H184 H185 o
      refine Slim.qg rfl S D rfl rfl H176 (fun h0 w hw => (Slim.bin2_g rfl H182 H186 id id (fun _ _ => Slim.cmp_neq)) h0) fun a24 o S D H187 => ?_
      replace H1 := o.st H1
      replace H5 := o.st H5
      replace H176 := o.st H176
      clear H182 H186 o
      refine Slim.qa rfl rfl S D (fun h0 w hw => (Slim.or_g rfl H176 H187 id (fun h1 h2 => Bool.and_eq_true_iff.2 ⟨h1, by rw [h2]; rfl⟩)) h0) fun a25 o S D H188 => ?_
      replace H1 := o.st H1
      replace H5 := o.st H5
      clear H176 H187 o
      refine wpQuiet_nil ?_
      rintro _ ⟨q', rfl⟩
      replace BX := qh (ZB.out _ ⟨q', rfl⟩)
      replace KB := qh (KB.out.trans (q'.h.mono hBV))
      refine hK6 _ _ ?_
      refine wp_cond_split (Slim.pres H188 rfl) (fun e188 => ?_) (fun e188 => ?_)
      · exact Slim.ret_const (t := 2) rfl rfl (by rw [S]; decide) fun a' o => by
          (try simp only [Exit.inBlock, Exit.then])
          exact on_ret rfl (o.defers.trans D) o.here ⟨ret_bool (Ms.okB_no fun h => Ms.log_no e188 (by have h1 := h.log k hkn; rw [← hek.out] at h1; exact h1)), by rw [HBS.out]; exact KB.out⟩
      · refine wp_skip ?_
        simp only [Exit.inBlock, Exit.then]
        refine hK5 _ _ ?_
        refine wp_region_lit ?_
        refine Slim.va rfl rfl S D (Slim.move_g rfl H5 id) fun a26 o S D H167 => ?_
        replace H1 := o.st H1
        clear H5 o
        refine Slim.va (v := .int .i64 ((k + 1 : Nat) : Int)) rfl rfl S D (Slim.bin_g rfl H167 id (fun _ _ => add_one k (by omega))) fun a27 o S D H168 => ?_
        replace H1 := o.st H1
        clear H167 o
        refine Slim.va rfl rfl S D (Slim.assign_g rfl H168 id) fun a28 o S D H5 => ?_
        replace H1 := o.st H1
        clear H168 o
        refine wpList_nil ?_
        refine ⟨⟨k + 1, S, D, H1, H5, hkn, fun t h ht => ?_, BX.out, KB.out⟩, ?_⟩
        · by_cases et : t = k
          · subst et
            rw [← hek.out]
            exact Ms.log_yes e188
          · exact HA.out t h (by omega)
        · have hm := MU.out
          show _ - (intOf (_ : Value)).toNat < _
          rw [hm, show (_ : Act).tmps.getD 5 undef = .int .i64 ((k + 1 : Nat) : Int) from Slim.pres H5 rfl]
          simp [intOf]; omega
    · have hkn : ¬ k < m.log.length := by have := of_decide_eq_false e166; omega
      refine wp_exit ?_
      simp only [Exit.inBlock, Exit.then, if_true]
      refine hK7 _ _ ?_
      exact Slim.ret_const (t := 2) rfl rfl (by rw [S]; decide) fun a' o => by
        (try simp only [Exit.inBlock, Exit.then])
        exact on_ret rfl (o.defers.trans D) o.here ⟨ret_bool (Ms.okB_yes ⟨N1.out, N2.out, N3.out, IA.out, fun t h => HA.out t h (by omega)⟩), by rw [HBS.out]; exact KB.out⟩
end Go.Proofs.Ytgmlbimgcifenaa