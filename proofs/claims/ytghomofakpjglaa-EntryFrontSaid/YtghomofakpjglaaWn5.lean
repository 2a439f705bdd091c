/-
Several texts in one: Er Qx Ep El Eb.
-/
import Derived.Test.YtghomofakpjglaaWn4
namespace En
open Go
set_option linter.unusedVariables false
/-- The document's own state: which kind it is at, behind which slot. -/
def At (kd sl z : Int) : Prop := (kd = 2 ∧ (-1 ≤ sl ∧ sl ≤ 7) ∧ z = sl) ∨ (kd = 1 ∧ (0 ≤ sl ∧ sl ≤ 7) ∧ z = 8 + sl)
end En
namespace Go.Proofs.Ytghomofakpjglaa
open Go.RowKit Go.Shelf
set_option linter.unusedVariables false
set_option linter.unusedSimpArgs false

theorem refmayin_any (x y b : Int) (w : World) (hx : -128 ≤ x) (hy : -128 ≤ y) :
    Calls Try.prog 53 #[.agg #[.int .i8 x, .int .i8 y, .int .u8 b]] w fun e w' => e = .returned (.bool (decide (-127 ≤ x ∧ -127 ≤ y))) ∧ Below w.heap.size w w' := by
  by_cases h1 : x = -128
  · subst h1
    go_enter Try.func53, Try.ntmps53
    go_wp2
    go_ret
    exact ⟨ret_bool (by simp), one_below _ _⟩
  · have e1 : (x != -128) = true := by simpa using h1
    by_cases h2 : y = -128
    · subst h2
      go_enter Try.func53, Try.ntmps53
      go_wp2
      go_ret
      exact ⟨ret_bool (by simp), one_below _ _⟩
    · have e2 : (y != -128) = true := by simpa using h2
      have hd : decide (-127 ≤ x ∧ -127 ≤ y) = true := decide_eq_true (by omega)
      rw [hd]
      go_enter Try.func53, Try.ntmps53
      go_wp2
      go_ret
      exact ⟨ret_bool (by simp), one_below _ _⟩

set_option maxRecDepth 100000 in
set_option maxHeartbeats 8000000 in
theorem refmayen_any (e : En.E) (A : Option Addr) (n c : Nat) (w : World) (hn : n = e.evs.length) (hn63 : n ≤ maxLen) (hty : ∀ i, i < 8 → Gm.tyIn (e.inp i)) (hL : Lies w w.heap.size 4 A n (En.evCells e.evs)) :
    Calls Try.prog 26 #[.agg (En.cells e (.slice A n c))] w fun r w' => r = .returned (.bool (decide (En.Ok e))) ∧ Below w.heap.size w w' := by
  obtain ⟨d, hv⟩ : ∃ d, d = decide (En.Ok e) := ⟨_, rfl⟩
  rw [← hv]
  have HV := Lib.hid hv
  have HN := Lib.hid hn
  clear hv hn
  have P0 := Lib.hid (Box.made w 60 (En.cells e (.slice A n c)))
  have K0 := Lib.hid (one_below w (.cells (En.cells e (.slice A n c)) 60))
  have hr0 := Lib.hid ((hL.below K0.out).wider K0.out.size)
  have c0 := P0.out.cell 0
  have c1 := P0.out.cell 1
  rw [En.cells_0] at c0
  rw [En.cells_1] at c1
  have n63 : (n : Int) ≤ 9223372036854775807 := by unfold maxLen at hn63; omega
  clear hL hn63
  by_cases hf1 : e.frame < 0
  · have hno := Lib.hid (show ¬ En.Ok e from fun h => by have := h.frame; omega)
    go_enter Try.func26, Try.ntmps26
    go_wp2
    go_ret
    exact ⟨ret_bool (by rw [HV.out]; exact (decide_eq_false hno.out).symm), K0.out⟩
  by_cases hf2 : 1048576 ≤ e.frame
  · have hno := Lib.hid (show ¬ En.Ok e from fun h => by have := h.frame; omega)
    go_enter Try.func26, Try.ntmps26
    go_wp2
    go_ret
    exact ⟨ret_bool (by rw [HV.out]; exact (decide_eq_false hno.out).symm), K0.out⟩
  have HF := Lib.hid (show 0 ≤ e.frame ∧ e.frame < 1048576 by omega)
  go_enter Try.func26, Try.ntmps26
  go_wp2
  go_loopw [3, 4, 5] (fun kv sv i wr => ∃ (k : Nat) (kd sl z : Int), k ≤ n ∧ i = .int .i64 k ∧ kv = .int .i64 kd ∧ sv = .int .i64 sl ∧ En.At kd sl z ∧ (En.Row (-1) e.evs ↔ En.Row z (e.evs.drop k)) ∧ Below (w.alloc (.cells (En.cells e (.slice A n c)) 60)).heap.size (w.alloc (.cells (En.cells e (.slice A n c)) 60)) wr) (fun _ _ i _ => n - (intOf i).toNat)
  case atStart => exact ⟨0, 2, -1, -1, by omega, rfl, rfl, rfl, .inl ⟨rfl, by omega, rfl⟩, Iff.rfl, Below.refl _ _⟩
  case round =>
    obtain ⟨k, kd, sl, z, hk, rfl, rfl, rfl, hat, hrow, hb⟩ := hrel
    have p1 := ((P0.out.below hb P0.out.lt).cell 1).trans (En.cells_1 _ _)
    have HB := Lib.hid hb
    have KB := Lib.hid (K0.out.trans (hb.mono K0.out.size))
    by_cases hlt : k < n
    · have hk8 : (k : Int) < n := by omega
      have hkl : k < e.evs.length := by have := HN.out; omega
      obtain ⟨ad, rfl, hbl, e0, e1, e2, e3⟩ := evs_at (hr0.out.below hb) HN.out k hkl
      rw [List.drop_eq_getElem_cons hkl] at hrow
      generalize hv : e.evs[k] = v at e0 e1 e2 e3 hrow
      obtain ⟨vk, vs, vg, vp⟩ := v
      dsimp only at e0 e1 e2 e3
      have hrow' : En.Row (-1) e.evs ↔ (En.evOk ⟨vk, vs, vg, vp⟩ ∧ z < En.place ⟨vk, vs, vg, vp⟩) ∧ En.Row (En.place ⟨vk, vs, vg, vp⟩) (e.evs.drop (k + 1)) := hrow
      have HW := Lib.hid hrow'
      have sz := hb.size
      have ltA : ad.block < wr.heap.size := Nat.lt_of_lt_of_le hbl hb.size
      have ltP := (P0.out.below hb P0.out.lt).lt
      have Q1 := Lib.hid (Box.made wr 71 #[.int .i64 vk, .int .i64 vs, .int .i64 vg, .int .i64 vp])
      have K1 := Lib.hid (KB.out.alloc KB.out.size (.cells #[.int .i64 vk, .int .i64 vs, .int .i64 vg, .int .i64 vp] 71))
      have KX := Lib.hid (HB.out.alloc HB.out.size (.cells #[.int .i64 vk, .int .i64 vs, .int .i64 vg, .int .i64 vp] 71))
      have q1 := Q1.out.cell
      have HAT := Lib.hid hat
      clear hrow hrow' hb hv hat
      rcases HAT.out with ⟨rfl, hs, rfl⟩ | ⟨rfl, hs, rfl⟩
      · by_cases k1 : vk = 1
        · subst k1
          have HPL := Lib.hid (show En.place ⟨1, vs, vg, vp⟩ = 8 + vs from rfl)
          by_cases t1 : vs ≤ -1
          · have HNO := Lib.hid (show ¬ (En.evOk ⟨1, vs, vg, vp⟩ ∧ z < En.place ⟨1, vs, vg, vp⟩) from fun h => by obtain ⟨⟨_, h2, _⟩, h5⟩ := h; rw [HPL.out] at h5; dsimp only at h2 h5; omega)
            go_wp2
            go_ret
            exact ⟨ret_bool (by rw [HV.out]; exact (decide_eq_false fun h => absurd (HW.out.1 h.row).1 HNO.out).symm), K1.out⟩
          by_cases t2 : 8 ≤ vs
          · have HNO := Lib.hid (show ¬ (En.evOk ⟨1, vs, vg, vp⟩ ∧ z < En.place ⟨1, vs, vg, vp⟩) from fun h => by obtain ⟨⟨_, h2, h3, h4⟩, _⟩ := h; dsimp only at h2 h3 h4; omega)
            go_wp2
            go_ret
            exact ⟨ret_bool (by rw [HV.out]; exact (decide_eq_false fun h => absurd (HW.out.1 h.row).1 HNO.out).symm), K1.out⟩
          by_cases t3 : vg < 1
          · have HNO := Lib.hid (show ¬ (En.evOk ⟨1, vs, vg, vp⟩ ∧ z < En.place ⟨1, vs, vg, vp⟩) from fun h => by obtain ⟨⟨_, h2, h3, h4⟩, _⟩ := h; dsimp only at h2 h3 h4; omega)
            go_wp2
            go_ret
            exact ⟨ret_bool (by rw [HV.out]; exact (decide_eq_false fun h => absurd (HW.out.1 h.row).1 HNO.out).symm), K1.out⟩
          by_cases t4 : 60000 < vg
          · have HNO := Lib.hid (show ¬ (En.evOk ⟨1, vs, vg, vp⟩ ∧ z < En.place ⟨1, vs, vg, vp⟩) from fun h => by obtain ⟨⟨_, h2, h3, h4⟩, _⟩ := h; dsimp only at h2 h3 h4; omega)
            go_wp2
            go_ret
            exact ⟨ret_bool (by rw [HV.out]; exact (decide_eq_false fun h => absurd (HW.out.1 h.row).1 HNO.out).symm), K1.out⟩
          by_cases t5 : vp < 0
          · have HNO := Lib.hid (show ¬ (En.evOk ⟨1, vs, vg, vp⟩ ∧ z < En.place ⟨1, vs, vg, vp⟩) from fun h => by obtain ⟨⟨_, h2, h3, h4⟩, _⟩ := h; dsimp only at h2 h3 h4; omega)
            go_wp2
            go_ret
            exact ⟨ret_bool (by rw [HV.out]; exact (decide_eq_false fun h => absurd (HW.out.1 h.row).1 HNO.out).symm), K1.out⟩
          by_cases t6 : 12 ≤ vp
          · have HNO := Lib.hid (show ¬ (En.evOk ⟨1, vs, vg, vp⟩ ∧ z < En.place ⟨1, vs, vg, vp⟩) from fun h => by obtain ⟨⟨_, h2, h3, h4⟩, _⟩ := h; dsimp only at h2 h3 h4; omega)
            go_wp2
            go_ret
            exact ⟨ret_bool (by rw [HV.out]; exact (decide_eq_false fun h => absurd (HW.out.1 h.row).1 HNO.out).symm), K1.out⟩
          have HNX := Lib.hid (show En.Row (-1) e.evs ↔ En.Row (8 + vs) (e.evs.drop (k + 1)) from by rw [HW.out, HPL.out]; exact ⟨fun h => h.2, fun h => ⟨⟨⟨by first | exact .inl rfl | exact .inr rfl, by dsimp only; omega, by dsimp only; omega, by dsimp only; omega⟩, by (try dsimp only); omega⟩, h⟩⟩)
          go_wp2
          go_roundw
          case rel => exact ⟨k + 1, 1, vs, 8 + vs, by omega, by go_num, rfl, rfl, .inr ⟨rfl, by omega, rfl⟩, HNX.out, KX.out⟩
          case measure => simp [intOf]; omega
        · by_cases k2 : vk = 2
          · subst k2
            have HPL := Lib.hid (show En.place ⟨2, vs, vg, vp⟩ = vs from rfl)
            by_cases t1 : vs ≤ z
            · have HNO := Lib.hid (show ¬ (En.evOk ⟨2, vs, vg, vp⟩ ∧ z < En.place ⟨2, vs, vg, vp⟩) from fun h => by obtain ⟨⟨_, h2, _⟩, h5⟩ := h; rw [HPL.out] at h5; dsimp only at h2 h5; omega)
              go_wp2
              go_ret
              exact ⟨ret_bool (by rw [HV.out]; exact (decide_eq_false fun h => absurd (HW.out.1 h.row).1 HNO.out).symm), K1.out⟩
            by_cases t2 : 8 ≤ vs
            · have HNO := Lib.hid (show ¬ (En.evOk ⟨2, vs, vg, vp⟩ ∧ z < En.place ⟨2, vs, vg, vp⟩) from fun h => by obtain ⟨⟨_, h2, h3, h4⟩, _⟩ := h; dsimp only at h2 h3 h4; omega)
              go_wp2
              go_ret
              exact ⟨ret_bool (by rw [HV.out]; exact (decide_eq_false fun h => absurd (HW.out.1 h.row).1 HNO.out).symm), K1.out⟩
            by_cases t3 : vg < 1
            · have HNO := Lib.hid (show ¬ (En.evOk ⟨2, vs, vg, vp⟩ ∧ z < En.place ⟨2, vs, vg, vp⟩) from fun h => by obtain ⟨⟨_, h2, h3, h4⟩, _⟩ := h; dsimp only at h2 h3 h4; omega)
              go_wp2
              go_ret
              exact ⟨ret_bool (by rw [HV.out]; exact (decide_eq_false fun h => absurd (HW.out.1 h.row).1 HNO.out).symm), K1.out⟩
            by_cases t4 : 60000 < vg
            · have HNO := Lib.hid (show ¬ (En.evOk ⟨2, vs, vg, vp⟩ ∧ z < En.place ⟨2, vs, vg, vp⟩) from fun h => by obtain ⟨⟨_, h2, h3, h4⟩, _⟩ := h; dsimp only at h2 h3 h4; omega)
              go_wp2
              go_ret
              exact ⟨ret_bool (by rw [HV.out]; exact (decide_eq_false fun h => absurd (HW.out.1 h.row).1 HNO.out).symm), K1.out⟩
            by_cases t5 : vp < 0
            · have HNO := Lib.hid (show ¬ (En.evOk ⟨2, vs, vg, vp⟩ ∧ z < En.place ⟨2, vs, vg, vp⟩) from fun h => by obtain ⟨⟨_, h2, h3, h4⟩, _⟩ := h; dsimp only at h2 h3 h4; omega)
              go_wp2
              go_ret
              exact ⟨ret_bool (by rw [HV.out]; exact (decide_eq_false fun h => absurd (HW.out.1 h.row).1 HNO.out).symm), K1.out⟩
            by_cases t6 : 12 ≤ vp
            · have HNO := Lib.hid (show ¬ (En.evOk ⟨2, vs, vg, vp⟩ ∧ z < En.place ⟨2, vs, vg, vp⟩) from fun h => by obtain ⟨⟨_, h2, h3, h4⟩, _⟩ := h; dsimp only at h2 h3 h4; omega)
              go_wp2
              go_ret
              exact ⟨ret_bool (by rw [HV.out]; exact (decide_eq_false fun h => absurd (HW.out.1 h.row).1 HNO.out).symm), K1.out⟩
            have HNX := Lib.hid (show En.Row (-1) e.evs ↔ En.Row (vs) (e.evs.drop (k + 1)) from by rw [HW.out, HPL.out]; exact ⟨fun h => h.2, fun h => ⟨⟨⟨by first | exact .inl rfl | exact .inr rfl, by dsimp only; omega, by dsimp only; omega, by dsimp only; omega⟩, by (try dsimp only); omega⟩, h⟩⟩)
            go_wp2
            go_roundw
            case rel => exact ⟨k + 1, 2, vs, vs, by omega, by go_num, rfl, rfl, .inl ⟨rfl, by omega, rfl⟩, HNX.out, KX.out⟩
            case measure => simp [intOf]; omega
          · have b1 : (vk == 1) = false := by simpa using k1
            have b2 : (vk != 2) = true := by simpa using k2
            have HNO := Lib.hid (show ¬ (En.evOk ⟨vk, vs, vg, vp⟩ ∧ z < En.place ⟨vk, vs, vg, vp⟩) from fun h => by obtain ⟨⟨h1, _⟩, _⟩ := h; dsimp only at h1; omega)
            go_wp2
            go_ret
            exact ⟨ret_bool (by rw [HV.out]; exact (decide_eq_false fun h => absurd (HW.out.1 h.row).1 HNO.out).symm), K1.out⟩
      · by_cases k1 : vk = 1
        · subst k1
          have HPL := Lib.hid (show En.place ⟨1, vs, vg, vp⟩ = 8 + vs from rfl)
          by_cases t1 : vs ≤ sl
          · have HNO := Lib.hid (show ¬ (En.evOk ⟨1, vs, vg, vp⟩ ∧ 8 + sl < En.place ⟨1, vs, vg, vp⟩) from fun h => by obtain ⟨⟨_, h2, _⟩, h5⟩ := h; rw [HPL.out] at h5; dsimp only at h2 h5; omega)
            go_wp2
            go_ret
            exact ⟨ret_bool (by rw [HV.out]; exact (decide_eq_false fun h => absurd (HW.out.1 h.row).1 HNO.out).symm), K1.out⟩
          by_cases t2 : 8 ≤ vs
          · have HNO := Lib.hid (show ¬ (En.evOk ⟨1, vs, vg, vp⟩ ∧ 8 + sl < En.place ⟨1, vs, vg, vp⟩) from fun h => by obtain ⟨⟨_, h2, h3, h4⟩, _⟩ := h; dsimp only at h2 h3 h4; omega)
            go_wp2
            go_ret
            exact ⟨ret_bool (by rw [HV.out]; exact (decide_eq_false fun h => absurd (HW.out.1 h.row).1 HNO.out).symm), K1.out⟩
          by_cases t3 : vg < 1
          · have HNO := Lib.hid (show ¬ (En.evOk ⟨1, vs, vg, vp⟩ ∧ 8 + sl < En.place ⟨1, vs, vg, vp⟩) from fun h => by obtain ⟨⟨_, h2, h3, h4⟩, _⟩ := h; dsimp only at h2 h3 h4; omega)
            go_wp2
            go_ret
            exact ⟨ret_bool (by rw [HV.out]; exact (decide_eq_false fun h => absurd (HW.out.1 h.row).1 HNO.out).symm), K1.out⟩
          by_cases t4 : 60000 < vg
          · have HNO := Lib.hid (show ¬ (En.evOk ⟨1, vs, vg, vp⟩ ∧ 8 + sl < En.place ⟨1, vs, vg, vp⟩) from fun h => by obtain ⟨⟨_, h2, h3, h4⟩, _⟩ := h; dsimp only at h2 h3 h4; omega)
            go_wp2
            go_ret
            exact ⟨ret_bool (by rw [HV.out]; exact (decide_eq_false fun h => absurd (HW.out.1 h.row).1 HNO.out).symm), K1.out⟩
          by_cases t5 : vp < 0
          · have HNO := Lib.hid (show ¬ (En.evOk ⟨1, vs, vg, vp⟩ ∧ 8 + sl < En.place ⟨1, vs, vg, vp⟩) from fun h => by obtain ⟨⟨_, h2, h3, h4⟩, _⟩ := h; dsimp only at h2 h3 h4; omega)
            go_wp2
            go_ret
            exact ⟨ret_bool (by rw [HV.out]; exact (decide_eq_false fun h => absurd (HW.out.1 h.row).1 HNO.out).symm), K1.out⟩
          by_cases t6 : 12 ≤ vp
          · have HNO := Lib.hid (show ¬ (En.evOk ⟨1, vs, vg, vp⟩ ∧ 8 + sl < En.place ⟨1, vs, vg, vp⟩) from fun h => by obtain ⟨⟨_, h2, h3, h4⟩, _⟩ := h; dsimp only at h2 h3 h4; omega)
            go_wp2
            go_ret
            exact ⟨ret_bool (by rw [HV.out]; exact (decide_eq_false fun h => absurd (HW.out.1 h.row).1 HNO.out).symm), K1.out⟩
          have HNX := Lib.hid (show En.Row (-1) e.evs ↔ En.Row (8 + vs) (e.evs.drop (k + 1)) from by rw [HW.out, HPL.out]; exact ⟨fun h => h.2, fun h => ⟨⟨⟨by first | exact .inl rfl | exact .inr rfl, by dsimp only; omega, by dsimp only; omega, by dsimp only; omega⟩, by (try dsimp only); omega⟩, h⟩⟩)
          go_wp2
          go_roundw
          case rel => exact ⟨k + 1, 1, vs, 8 + vs, by omega, by go_num, rfl, rfl, .inr ⟨rfl, by omega, rfl⟩, HNX.out, KX.out⟩
          case measure => simp [intOf]; omega
        · have b1 : (vk == 1) = false := by simpa using k1
          have b2 : (vk != 1) = true := by simpa using k1
          have HNO := Lib.hid (show ¬ (En.evOk ⟨vk, vs, vg, vp⟩ ∧ 8 + sl < En.place ⟨vk, vs, vg, vp⟩) from fun h => by
            obtain ⟨⟨h1, h2, _⟩, h5⟩ := h
            dsimp only at h1 h2
            have : vk = 2 := by omega
            subst this
            rw [show En.place ⟨2, vs, vg, vp⟩ = vs from rfl] at h5
            omega)
          go_wp2
          go_ret
          exact ⟨ret_bool (by rw [HV.out]; exact (decide_eq_false fun h => absurd (HW.out.1 h.row).1 HNO.out).symm), K1.out⟩
    · have hk8 : ¬ (k : Int) < n := by omega
      obtain rfl : k = n := by omega
      have hd : e.evs.drop k = [] := List.drop_eq_nil_of_le (by have := HN.out; omega)
      rw [hd] at hrow
      have HW := Lib.hid (show En.Row (-1) e.evs from hrow.2 trivial)
      clear hrow hb hat c0 c1
      go_wp2
      go_loopw [7] (fun i wq => ∃ m : Nat, m ≤ 8 ∧ i = .int .i64 m ∧ Below wr.heap.size wr wq ∧ ∀ j, j < m → En.inOk (e.inp j)) (fun i _ => 8 - (intOf i).toNat)
      case atStart => exact ⟨0, by omega, rfl, Below.refl _ _, fun j hj => absurd hj (Nat.not_lt_zero j)⟩
      case round =>
        obtain ⟨m, hm, rfl, hb2, hall⟩ := hrel
        have KM := Lib.hid (KB.out.trans (hb2.mono KB.out.size))
        have PM := Lib.hid ((P0.out.below HB.out P0.out.lt).below hb2 (P0.out.below HB.out P0.out.lt).lt)
        clear p1
        by_cases hlt8 : m < 8
        · have hm8 : (m : Int) < 8 := by omega
          have e0 := (PM.out.cell (2 + m * 3)).trans (En.cells_in e _ m 0 hlt8 (by omega))
          have e1 := (PM.out.cell (2 + m * 3 + 1)).trans (En.cells_in e _ m 1 hlt8 (by omega))
          have e2 := (PM.out.cell (2 + m * 3 + 2)).trans (En.cells_in e _ m 2 hlt8 (by omega))
          have hok : En.inOk (e.inp m) ↔ (-127 ≤ (e.inp m).x ∧ -127 ≤ (e.inp m).y) := Iff.rfl
          have hti := hty m hlt8
          have HK := Lib.hid (show ∀ j, j < m + 1 → j = m ∨ j < m from fun j hj => by omega)
          obtain ⟨p, hp⟩ : ∃ p, p = e.inp m := ⟨_, rfl⟩
          rw [← hp] at e0 e1 e2 hok hti
          obtain ⟨x, y, b⟩ := p
          simp only [Gm.In.cells, List.getElem?_cons_zero, List.getElem?_cons_succ, Nat.add_zero] at e0 e1 e2
          dsimp only at hok
          obtain ⟨tx, ty, tb⟩ := hti
          dsimp only at tx ty tb
          have cs := fun X => Lib.hid (refmayin_any x y b X tx.1 ty.1)
          have HP := Lib.hid hp
          have HALL := Lib.hid hall
          have HB2 := Lib.hid hb2
          clear hp hall hb2
          by_cases hi : -127 ≤ x ∧ -127 ≤ y
          · rw [decide_eq_true hi] at cs
            have hnew := Lib.hid (show ∀ j, j < m + 1 → En.inOk (e.inp j) from fun j hj => by
              rcases HK.out j hj with rfl | h
              · rw [← HP.out]; exact hok.2 hi
              · exact HALL.out j h)
            clear hok hi
            go_wp2_with (go_at_call 53; ((with_reducible refine ((cs _).out).mono ?_); rintro r w2 ⟨rfl, hb⟩; have K2 := Lib.hid (HB2.out.trans (hb.mono HB2.out.size)); clear hb))
            go_roundw
            case rel => exact ⟨m + 1, by omega, by go_num, K2.out, hnew.out⟩
            case measure => simp [intOf]; omega
          · rw [decide_eq_false hi] at cs
            have hno := Lib.hid (show ¬ En.Ok e from fun h => hi (by have := h.ins m hlt8; rw [← HP.out] at this; exact this))
            clear hok hi
            go_wp2_with (go_at_call 53; ((with_reducible refine ((cs _).out).mono ?_); rintro r w2 ⟨rfl, hb⟩; have K2 := Lib.hid (KM.out.trans (hb.mono KM.out.size)); clear hb))
            go_ret
            exact ⟨ret_bool (by rw [HV.out]; exact (decide_eq_false hno.out).symm), K2.out⟩
        · have hm8 : ¬ (m : Int) < 8 := by omega
          obtain rfl : m = 8 := by omega
          have hyes := Lib.hid (show En.Ok e from ⟨HF.out, HW.out, hall⟩)
          clear hall hb2
          go_wp2
          go_ret
          exact ⟨ret_bool (by rw [HV.out]; exact (decide_eq_true hyes.out).symm), KM.out⟩
end Go.Proofs.Ytghomofakpjglaa
namespace Go
open Go.RowKit

/-- A world that came of W, with every block below B as it was. -/
structure Ext (B : Nat) (W : World) where
  w : World
  h : Below B W w

instance {B : Nat} {W : World} : Nonempty (Ext B W) := ⟨⟨W, Below.refl _ _⟩⟩

theorem Ext.cell {B : Nat} {W : World} (q : Ext B W) {b o : Nat} {v : Value} (hb : b < B) (hc : W.cell? ⟨b, o, none⟩ = some v) : q.w.cell? ⟨b, o, none⟩ = some v :=
  (q.h.cell (p := ⟨b, o, none⟩) hb).trans hc

theorem wp_region_ext {P : Program} {id : Nat} {Q : Exit → Act → World → Prop} {a : Act} {w : World} {l : List Oper} (B : Nat) (W : World) (hm : P.follows .mixedOrders = true) (hB : Region.lexB .any l.toArray = true) (hC : Below B W w)
    (h : wpQuiet P l.toArray (fun w' => ∃ q : Ext B W, w' = q.w) (fun a' => ∀ w', (∃ q : Ext B W, w' = q.w) → Q .normal a' w') l a) : (Code.region id l.toArray true).wp P Q a w :=
  wp_region_quiet (C := fun w' => ∃ q : Ext B W, w' = q.w) hm hB ⟨⟨_, hC.drew⟩, rfl⟩ (by simpa using h)

/-- A callee that may make memory. -/
theorem Calls.ext_of {P : Program} {f : FuncId} {args : Array Value} {B : Nat} {W : World} {q : Ext B W} {v : Value} (hB : B ≤ W.heap.size)
    (h : Calls P f args q.w fun e w' => e = .returned v ∧ Below q.w.heap.size q.w w') : Calls P f args q.w fun e w'' => e = .returned v ∧ ∃ q' : Ext B W, w'' = q'.w :=
  h.mono fun _ w' ⟨he, hb⟩ => ⟨he, ⟨w', q.h.trans (hb.mono (Nat.le_trans hB q.h.size))⟩, rfl⟩

end Go
namespace Go.Proofs.Ytghomofakpjglaa
open Go.RowKit Go.Shelf
set_option linter.unusedVariables false
set_option linter.unusedSimpArgs false

theorem u8_fill3 (a b c : Int) : Instr.fill (fun i => some (i * 1, 1)) ((Array.range (3 * 1)).map ((Value.int .u8 0).cells[· % (Value.int .u8 0).cells.size]!)) [(0, .int .u8 a), (1, .int .u8 b), (2, .int .u8 c)] = some #[.int .u8 a, .int .u8 b, .int .u8 c] := by kernel_rfl
theorem u8_slice3 (a b c : Int) (W : World) : (Instr.buildSlice 36 3 #[(0, .int .u8 a), (1, .int .u8 b), (2, .int .u8 c)]).run Try.prog W = .ok (.slice (some ⟨W.heap.size, 0, none⟩) 3 3) (W.alloc (.cells #[.int .u8 a, .int .u8 b, .int .u8 c] 5)) := by
  obtain ⟨i, hq, hz, hs, _⟩ := u8_parts
  exact run_buildSlice W _ _ 3 _ _ i (.int .u8 0) Try.underlying36 hq hz (by rw [hs]; decide) (by rw [hs]; decide) (by rw [hs]; exact u8_fill3 a b c)

set_option maxRecDepth 100000 in
theorem refputin_any (p : Gm.In) (w : World) (hty : Gm.tyIn p) :
    Calls Try.prog 58 #[.agg p.cells.toArray] w fun e w' => e = .returned (.string (strOfNums (En.inBytes p))) ∧ Below w.heap.size w w' := by
  obtain ⟨x, y, b⟩ := p
  obtain ⟨t1, t2, t3⟩ := hty
  dsimp only at t1 t2 t3
  simp only [Gm.In.cells]
  have e0 : En.inBytes ⟨x, y, b⟩ = [x % 256, y % 256, b] := by
    unfold En.inBytes Im.bytesOf Im.bytesOf
    simp
    omega
  rw [e0]
  have hw1 : IntKind.u8.wrap x = x % 256 := by rw [IntKind.wrap_u8]
  have hw2 : IntKind.u8.wrap y = y % 256 := by rw [IntKind.wrap_u8]
  have hsl := fun a b c W => u8_slice3 a b c W
  have hcv := conv_bytes [x % 256, y % 256, b] 3 (some ⟨w.heap.size + 1, 0, none⟩) 3 ((w.alloc (.cells #[.int .i8 x, .int .i8 y, .int .u8 b] 57)).alloc (.cells #[.int .u8 (x % 256), .int .u8 (y % 256), .int .u8 b] 5)) _ rfl (Lies.boxed (xs := Im.u8s [x % 256, y % 256, b]) (n := 3) (size := 1) (Box.made_at (n := w.heap.size + 1) (w.alloc (.cells #[.int .i8 x, .int .i8 y, .int .u8 b] 57)) 5 (Im.u8s [x % 256, y % 256, b]).toArray (by simp)) rfl)
  have K := Lib.hid (two_below' w (.cells #[.int .i8 x, .int .i8 y, .int .u8 b] 57) (.cells #[.int .u8 (x % 256), .int .u8 (y % 256), .int .u8 b] 5))
  go_enter Try.func58, Try.ntmps58
  go_wp2
  go_ret
  exact ⟨rfl, K.out⟩

/-- Two strings, one behind the other: their sum has a name. -/
theorem str_sum {a b c : List Int} {x y : ByteArray} (hx : x = strOfNums a) (hy : y = strOfNums b) (hc : a ++ b = c) (hl : a.length + b.length ≤ 1000000) : ∃ u : ByteArray, u = strOfNums c ∧ x ++ y = u ∧ ¬ 9223372036854775807 < x.size + y.size := by
  subst hx hy hc
  exact ⟨_, rfl, (Sx.str_append a b).symm, by rw [strOfNums_size, strOfNums_size]; omega⟩

set_option maxRecDepth 100000 in
set_option maxHeartbeats 4000000 in
theorem refputen_any (e : En.E) (A : Option Addr) (n c : Nat) (w : World) (hok : En.Ok e) (hty : ∀ i, i < 8 → Gm.tyIn (e.inp i)) (hn : n = e.evs.length) (hL : Lies w w.heap.size 4 A n (En.evCells e.evs)) :
    Calls Try.prog 29 #[.agg (En.cells e (.slice A n c))] w fun r w' => r = .returned (.string (strOfNums (En.put e))) ∧ Below w.heap.size w w' := by
  have hn16 := hok.count
  rw [← hn] at hn16
  have HN := Lib.hid hn
  have P0 := Lib.hid (Box.made w 60 (En.cells e (.slice A n c)))
  have K0 := Lib.hid (one_below w (.cells (En.cells e (.slice A n c)) 60))
  have hr0 := Lib.hid ((hL.below K0.out).wider K0.out.size)
  have hfr := hok.frame
  have hwf : IntKind.u64.wrap e.frame = e.frame := by rw [IntKind.wrap_u64]; omega
  have hwn : IntKind.u64.wrap (n : Int) = n := by rw [IntKind.wrap_u64]; omega
  have hf2 : e.frame ≤ 18446744073709551615 := by omega
  have hrm := En.row_mem _ _ hok.row
  have HP := Lib.hid (show En.put e = Im.bytesOf 4 e.frame ++ ((Im.bytesOf 1 e.evs.length ++ En.evsBytes e.evs) ++ (Im.bytesOf 1 (En.mask e.inp 8) ++ En.insBytes e.inp 8)) from rfl)
  rw [← HN.out] at HP
  have HRM := Lib.hid hrm
  clear hL hn hok hrm
  go_enter Try.func29, Try.ntmps29
  go_upto_region 1 with fail
  generalize hW0 : w.alloc (.cells (En.cells e (.slice A n c)) 60) = W0 at *
  clear hW0
  have z0 : ∀ q : Ext W0.heap.size W0, q.w.cell? ⟨w.heap.size, 0, none⟩ = some (.int .i64 e.frame) := fun q => q.cell P0.out.lt ((P0.out.cell 0).trans (En.cells_0 _ _))
  have z1 : ∀ q : Ext W0.heap.size W0, q.w.cell? ⟨w.heap.size, 1, none⟩ = some (.slice A n c) := fun q => q.cell P0.out.lt ((P0.out.cell 1).trans (En.cells_1 _ _))
  obtain ⟨s1, hs1⟩ : ∃ s, s = strOfNums (Im.bytesOf 4 e.frame) := ⟨_, rfl⟩
  obtain ⟨s2, hs2⟩ : ∃ s, s = strOfNums (Im.bytesOf 1 (n : Int)) := ⟨_, rfl⟩
  obtain ⟨s3, hs3, ha3, hc3⟩ := str_sum hs1 hs2 rfl (by rw [Im.bytesOf_len, Im.bytesOf_len]; omega)
  have cn1 := fun X => Lib.hid (refput_num 4 4 e.frame rfl X (by decide) ⟨hfr.1, hf2⟩)
  have cn2 := fun X => Lib.hid (refput_num 1 1 (n : Int) rfl X (by decide) ⟨by omega, by omega⟩)
  rw [← hs1] at cn1
  rw [← hs2] at cn2
  have HS3 := Lib.hid hs3
  clear hs1 hs2 hs3
  refine wp_region_ext W0.heap.size W0 (by kernel_rfl) (by kernel_rfl) (Below.refl _ _) ?_
  repeat (first | go_big_quiet_step ((go_at_call 43; first | with_reducible exact Calls.ext_of (Nat.le_refl _) (cn1 _).out | with_reducible exact Calls.ext_of (Nat.le_refl _) (cn2 _).out)))
  refine wpQuiet_nil ?_
  intro _ hw'
  obtain ⟨q0, hw''⟩ := hw'
  subst hw''
  have K1 := Lib.hid q0.h
  clear z0 z1 cn1 cn2
  go_wp2
  go_loopw [3, 4] (fun sv i wr => ∃ k : Nat, k ≤ n ∧ i = .int .i64 k ∧ sv = .string (strOfNums (Im.bytesOf 4 e.frame ++ Im.bytesOf 1 (n : Int) ++ En.evsBytes (e.evs.take k))) ∧ Below W0.heap.size W0 wr) (fun _ i _ => n - (intOf i).toNat)
  case atStart => exact ⟨0, by omega, rfl, by rw [HS3.out]; simp [En.evsBytes], K1.out⟩
  case round =>
    obtain ⟨k, hk, rfl, rfl, hb⟩ := hrel
    have p1 := ((P0.out.below hb P0.out.lt).cell 1).trans (En.cells_1 _ _)
    have HB := Lib.hid hb
    have KB := Lib.hid (K0.out.trans (hb.mono K0.out.size))
    by_cases hlt : k < n
    · have hk8 : (k : Int) < n := by omega
      have hkl : k < e.evs.length := by have := HN.out; omega
      obtain ⟨ad, rfl, hbl, e0, e1, e2, e3⟩ := evs_at (hr0.out.below hb) HN.out k hkl
      have hsn := En.evsBytes_snoc e.evs k hkl
      have hev := HRM.out e.evs[k] (List.getElem_mem hkl)
      generalize hv : e.evs[k] = v at e0 e1 e2 e3 hsn hev
      obtain ⟨vk, vs, vg, vp⟩ := v
      obtain ⟨o1, o2, o3, o4⟩ := hev
      dsimp only at e0 e1 e2 e3 o1 o2 o3 o4
      have sz := hb.size
      have ltA : ad.block < wr.heap.size := Nat.lt_of_lt_of_le hbl hb.size
      have ltP := (P0.out.below hb P0.out.lt).lt
      have hlen : (Im.bytesOf 4 e.frame ++ Im.bytesOf 1 (n : Int) ++ En.evsBytes (e.evs.take k)).length = 5 + 5 * k := by
        rw [List.length_append, List.length_append, Im.bytesOf_len, Im.bytesOf_len, En.evsBytes_len, List.length_take]; omega
      have HPRE := Lib.hid (show Im.bytesOf 4 e.frame ++ Im.bytesOf 1 (n : Int) ++ En.evsBytes (e.evs.take (k + 1)) = Im.bytesOf 4 e.frame ++ Im.bytesOf 1 (n : Int) ++ En.evsBytes (e.evs.take k) ++ Im.bytesOf 1 vk ++ Im.bytesOf 1 vs ++ Im.bytesOf 2 vg ++ Im.bytesOf 1 vp by rw [hsn]; unfold En.evBytes; simp only [List.append_assoc])
      generalize Im.bytesOf 4 e.frame ++ Im.bytesOf 1 (n : Int) ++ En.evsBytes (e.evs.take k) = pre at *
      obtain ⟨s0, hs0⟩ : ∃ s, s = strOfNums pre := ⟨_, rfl⟩
      obtain ⟨sa, hsa⟩ : ∃ s, s = strOfNums (Im.bytesOf 1 vk) := ⟨_, rfl⟩
      obtain ⟨sb, hsb⟩ : ∃ s, s = strOfNums (Im.bytesOf 1 vs) := ⟨_, rfl⟩
      obtain ⟨sc, hsc⟩ : ∃ s, s = strOfNums (Im.bytesOf 2 vg) := ⟨_, rfl⟩
      obtain ⟨sd, hsd⟩ : ∃ s, s = strOfNums (Im.bytesOf 1 vp) := ⟨_, rfl⟩
      obtain ⟨t1, ht1, ha1, hc1⟩ := str_sum hs0 hsa rfl (by rw [Im.bytesOf_len]; omega)
      obtain ⟨t2, ht2, ha2, hc2⟩ := str_sum ht1 hsb rfl (by rw [List.length_append, Im.bytesOf_len, Im.bytesOf_len]; omega)
      obtain ⟨t3, ht3, ha3', hc3'⟩ := str_sum ht2 hsc rfl (by rw [List.length_append, List.length_append, Im.bytesOf_len, Im.bytesOf_len, Im.bytesOf_len]; omega)
      obtain ⟨t4, ht4, ha4, hc4⟩ := str_sum ht3 hsd rfl (by rw [List.length_append, List.length_append, List.length_append, Im.bytesOf_len, Im.bytesOf_len, Im.bytesOf_len, Im.bytesOf_len]; omega)
      have cka := fun X => Lib.hid (refput_num 1 1 vk rfl X (by decide) ⟨by omega, by omega⟩)
      have cks := fun X => Lib.hid (refput_num 1 1 vs rfl X (by decide) ⟨by omega, by omega⟩)
      have ckg := fun X => Lib.hid (refput_num 2 2 vg rfl X (by decide) ⟨by omega, by omega⟩)
      have ckp := fun X => Lib.hid (refput_num 1 1 vp rfl X (by decide) ⟨by omega, by omega⟩)
      have hw1 : IntKind.u64.wrap vk = vk := by rw [IntKind.wrap_u64]; omega
      have hw2 : IntKind.u64.wrap vs = vs := by rw [IntKind.wrap_u64]; omega
      have hw3 : IntKind.u64.wrap vg = vg := by rw [IntKind.wrap_u64]; omega
      have hw4 : IntKind.u64.wrap vp = vp := by rw [IntKind.wrap_u64]; omega
      rw [← hs0]
      rw [← hsa] at cka
      rw [← hsb] at cks
      rw [← hsc] at ckg
      rw [← hsd] at ckp
      have HT4 := Lib.hid ht4
      clear hs0 hsa hsb hsc hsd ht1 ht2 ht3 ht4 hsn hb hv
      go_upto_region 6 with fail
      have Q1 := Lib.hid (Box.made wr 71 #[.int .i64 vk, .int .i64 vs, .int .i64 vg, .int .i64 vp])
      have K2 := Lib.hid (HB.out.alloc HB.out.size (.cells #[.int .i64 vk, .int .i64 vs, .int .i64 vg, .int .i64 vp] 71))
      generalize hW1 : wr.alloc (.cells #[.int .i64 vk, .int .i64 vs, .int .i64 vg, .int .i64 vp] 71) = W1 at *
      clear hW1 p1 e0 e1 e2 e3
      have z0 : ∀ q : Ext W1.heap.size W1, q.w.cell? ⟨wr.heap.size, 0, none⟩ = some (.int .i64 vk) := fun q => q.cell Q1.out.lt (Q1.out.cell 0)
      have z1 : ∀ q : Ext W1.heap.size W1, q.w.cell? ⟨wr.heap.size, 1, none⟩ = some (.int .i64 vs) := fun q => q.cell Q1.out.lt (Q1.out.cell 1)
      have z2 : ∀ q : Ext W1.heap.size W1, q.w.cell? ⟨wr.heap.size, 2, none⟩ = some (.int .i64 vg) := fun q => q.cell Q1.out.lt (Q1.out.cell 2)
      have z3 : ∀ q : Ext W1.heap.size W1, q.w.cell? ⟨wr.heap.size, 3, none⟩ = some (.int .i64 vp) := fun q => q.cell Q1.out.lt (Q1.out.cell 3)
      refine wp_region_ext W1.heap.size W1 (by kernel_rfl) (by kernel_rfl) (Below.refl _ _) ?_
      repeat (first | go_big_quiet_step ((go_at_call 43; first | with_reducible exact Calls.ext_of (Nat.le_refl _) (cka _).out | with_reducible exact Calls.ext_of (Nat.le_refl _) (cks _).out | with_reducible exact Calls.ext_of (Nat.le_refl _) (ckg _).out | with_reducible exact Calls.ext_of (Nat.le_refl _) (ckp _).out)))
      refine wpQuiet_nil ?_
      intro _ hw'
      obtain ⟨q1, hw''⟩ := hw'
      subst hw''
      have K3 := Lib.hid (K2.out.trans (q1.h.mono K2.out.size))
      clear z0 z1 z2 z3 cka cks ckg ckp
      go_wp2
      go_roundw
      case rel => exact ⟨k + 1, by omega, by go_num, by rw [HPRE.out, HT4.out], K3.out⟩
      case measure => simp [intOf]; omega
    · have hk8 : ¬ (k : Int) < n := by omega
      obtain rfl : k = n := by omega
      have htk : e.evs.take k = e.evs := List.take_of_length_le (by have := HN.out; omega)
      rw [htk]
      have hlen : (Im.bytesOf 4 e.frame ++ Im.bytesOf 1 (k : Int) ++ En.evsBytes e.evs).length = 5 + 5 * k := by
        rw [List.length_append, List.length_append, Im.bytesOf_len, Im.bytesOf_len, En.evsBytes_len]; have := HN.out; omega
      have HPUT := Lib.hid (show En.put e = Im.bytesOf 4 e.frame ++ Im.bytesOf 1 (k : Int) ++ En.evsBytes e.evs ++ Im.bytesOf 1 (En.mask e.inp 8) ++ En.insBytes e.inp 8 by rw [HP.out]; simp only [List.append_assoc])
      generalize Im.bytesOf 4 e.frame ++ Im.bytesOf 1 (k : Int) ++ En.evsBytes e.evs = pre at *
      obtain ⟨s0, hs0⟩ : ∃ s, s = strOfNums pre := ⟨_, rfl⟩
      rw [← hs0]
      have HS0 := Lib.hid hs0
      clear hs0 htk
      have PB := Lib.hid (P0.out.below hb P0.out.lt)
      clear hb
      go_wp2
      go_loopw [6, 7, 8] (fun mv sv i wq => ∃ j : Nat, j ≤ 8 ∧ i = .int .i64 j ∧ mv = .int .i64 (En.mask e.inp j : Nat) ∧ sv = .string (strOfNums (En.insBytes e.inp j)) ∧ Below wr.heap.size wr wq) (fun _ _ i _ => 8 - (intOf i).toNat)
      case atStart => exact ⟨0, by omega, rfl, rfl, rfl, Below.refl _ _⟩
      case round =>
        obtain ⟨j, hj, rfl, rfl, rfl, hb⟩ := hrel
        have PQ := Lib.hid (PB.out.below hb PB.out.lt)
        have HQ := Lib.hid hb
        by_cases hlt8 : j < 8
        · have hj8 : (j : Int) < 8 := by omega
          have e0 := (PQ.out.cell (2 + j * 3)).trans (En.cells_in e _ j 0 hlt8 (by omega))
          have e1 := (PQ.out.cell (2 + j * 3 + 1)).trans (En.cells_in e _ j 1 hlt8 (by omega))
          have e2 := (PQ.out.cell (2 + j * 3 + 2)).trans (En.cells_in e _ j 2 hlt8 (by omega))
          have hml := En.mask_lt e.inp j
          have hp8 : 2 ^ j < 2 ^ 8 := Nat.pow_lt_pow_right (by decide) hlt8
          have hms : En.mask e.inp (j + 1) = En.mask e.inp j + (if En.zero (e.inp j) = true then 0 else 2 ^ j) := rfl
          have his : En.insBytes e.inp (j + 1) = En.insBytes e.inp j ++ (if En.zero (e.inp j) then [] else En.inBytes (e.inp j)) := rfl
          have hil := En.insBytes_le e.inp j
          have hti := hty j hlt8
          obtain ⟨p, hp⟩ : ∃ p, p = e.inp j := ⟨_, rfl⟩
          rw [← hp] at e0 e1 e2 hms his hti
          obtain ⟨x, y, u⟩ := p
          have cpi := fun X => Lib.hid (refputin_any ⟨x, y, u⟩ X hti)
          simp only [Gm.In.cells, List.getElem?_cons_zero, List.getElem?_cons_succ, Nat.add_zero] at e0 e1 e2 cpi
          have hneq := fun W => in_neq x y u W
          obtain ⟨m, hm⟩ : ∃ m, m = En.mask e.inp j := ⟨_, rfl⟩
          rw [← hm] at hml hms ⊢
          have hor := En.or_bit ⟨m, by omega⟩ ⟨j, hlt8⟩ hml
          dsimp only at hor
          rw [IntWalk.i64_left] at hor
          obtain ⟨s1, hs1⟩ : ∃ s, s = strOfNums (En.insBytes e.inp j) := ⟨_, rfl⟩
          rw [← hs1]
          obtain ⟨s2, hs2⟩ : ∃ s, s = strOfNums (En.inBytes ⟨x, y, u⟩) := ⟨_, rfl⟩
          obtain ⟨s4, hs4, ha4, hc4⟩ := str_sum hs1 hs2 rfl (by rw [En.inBytes_len]; omega)
          rw [← hs2] at cpi
          have ltQ := PQ.out.lt
          have hwj : IntKind.u64.wrap (j : Int) = j := by rw [IntKind.wrap_u64]; omega
          cases hz : En.zero ⟨x, y, u⟩
          · rw [hz] at hms his hneq
            simp only [Bool.false_eq_true, if_false] at hms his
            have HMS := Lib.hid hms
            have HIS := Lib.hid his
            have HS4 := Lib.hid hs4
            clear hms his hz hs1 hs2 hs4 hp hm hb hil hml
            go_wp2_with (go_at_call 58; ((with_reducible refine ((cpi _).out).mono ?_); rintro r w3 ⟨rfl, hb⟩; have K5 := Lib.hid (HQ.out.trans (hb.mono HQ.out.size)); clear hb))
            go_roundw
            case rel => exact ⟨j + 1, by omega, by go_num, by rw [HMS.out]; push_cast; rfl, by rw [HIS.out, HS4.out], K5.out⟩
            case measure => simp [intOf]; omega
          · rw [hz] at hms his hneq
            simp only [if_true, Nat.add_zero, List.append_nil] at hms his
            have HMS := Lib.hid hms
            have HIS := Lib.hid his
            have HS1 := Lib.hid hs1
            clear hms his hz hs1 hs2 hs4 hp hm hb hil hml
            go_wp2
            go_roundw
            case rel => exact ⟨j + 1, by omega, by go_num, by rw [HMS.out], by rw [HIS.out, HS1.out], HQ.out⟩
            case measure => simp [intOf]; omega
        · have hj8 : ¬ (j : Int) < 8 := by omega
          obtain rfl : j = 8 := by omega
          have hml := En.mask_lt e.inp 8
          have hil := En.insBytes_le e.inp 8
          generalize En.mask e.inp 8 = m at *
          generalize En.insBytes e.inp 8 = ib at *
          have cnm := fun X => Lib.hid (refput_num 1 1 (m : Int) rfl X (by decide) ⟨by omega, by omega⟩)
          have hwm : IntKind.u64.wrap (m : Int) = m := by rw [IntKind.wrap_u64]; omega
          obtain ⟨s1, hs1⟩ : ∃ s, s = strOfNums (Im.bytesOf 1 (m : Int)) := ⟨_, rfl⟩
          obtain ⟨s2, hs2⟩ : ∃ s, s = strOfNums ib := ⟨_, rfl⟩
          obtain ⟨s4, hs4, ha4, hc4⟩ := str_sum HS0.out hs1 rfl (by rw [Im.bytesOf_len]; omega)
          obtain ⟨s5, hs5, ha5, hc5⟩ := str_sum hs4 hs2 rfl (by rw [List.length_append, Im.bytesOf_len]; omega)
          rw [← hs1] at cnm
          rw [← hs2]
          have HS5 := Lib.hid hs5
          clear hs1 hs2 hs4 hs5 hb
          have KZ := Lib.hid (KB.out.trans (HQ.out.mono KB.out.size))
          go_wp2_with (go_at_call 43; ((with_reducible refine ((cnm _).out).mono ?_); rintro r w3 ⟨rfl, hb⟩; have K5 := Lib.hid (KZ.out.trans (hb.mono KZ.out.size)); clear hb))
          go_ret
          exact ⟨by rw [HPUT.out, ← HS5.out]; rfl, K5.out⟩
end Go.Proofs.Ytghomofakpjglaa
namespace Sx
open Go Im En
set_option linter.unusedVariables false
/-- An event, an input, as the reader gives them; what it leaves. -/
def ev (o : Option (List Int)) : Ev := ⟨num 1 o, num 1 (rest 1 o), num 2 (rest 1 (rest 1 o)), num 1 (rest 2 (rest 1 (rest 1 o)))⟩
def evRest (o : Option (List Int)) : Option (List Int) := rest 1 (rest 2 (rest 1 (rest 1 o)))
def inp (o : Option (List Int)) : Gm.In := ⟨IntKind.i8.wrap (num 1 o), IntKind.i8.wrap (num 1 (rest 1 o)), num 1 (rest 1 (rest 1 o))⟩
def inRest (o : Option (List Int)) : Option (List Int) := rest 1 (rest 1 (rest 1 o))
theorem ev_step (r : List Int) : match evRest (some r) with | none => decEv r = none | some r' => decEv r = some (ev (some r), r') := by
  unfold evRest ev decEv
  cases h1 : rdn 1 r with
  | none => rw [(num_none h1).2]; rfl
  | some q1 =>
    have h1' : rdn 1 r = some (q1.1, q1.2) := h1
    rw [(num_some h1').2, (num_some h1').1, Option.bind_some]
    cases h2 : rdn 1 q1.2 with
    | none => rw [(num_none h2).2]; rfl
    | some q2 =>
      have h2' : rdn 1 q1.2 = some (q2.1, q2.2) := h2
      rw [(num_some h2').2, (num_some h2').1, Option.bind_some]
      cases h3 : rdn 2 q2.2 with
      | none => rw [(num_none h3).2]; rfl
      | some q3 =>
        have h3' : rdn 2 q2.2 = some (q3.1, q3.2) := h3
        rw [(num_some h3').2, (num_some h3').1, Option.bind_some]
        cases h4 : rdn 1 q3.2 with
        | none => rw [(num_none h4).2]; rfl
        | some q4 =>
          have h4' : rdn 1 q3.2 = some (q4.1, q4.2) := h4
          rw [(num_some h4').2, (num_some h4').1]
          rfl
theorem in_step (r : List Int) : match inRest (some r) with | none => decIn r = none | some r' => decIn r = if zero (inp (some r)) then none else some (inp (some r), r') := by
  unfold inRest inp decIn
  cases h1 : rdn 1 r with
  | none => rw [(num_none h1).2]; rfl
  | some q1 =>
    have h1' : rdn 1 r = some (q1.1, q1.2) := h1
    rw [(num_some h1').2, (num_some h1').1, Option.bind_some]
    cases h2 : rdn 1 q1.2 with
    | none => rw [(num_none h2).2]; rfl
    | some q2 =>
      have h2' : rdn 1 q1.2 = some (q2.1, q2.2) := h2
      rw [(num_some h2').2, (num_some h2').1, Option.bind_some]
      cases h3 : rdn 1 q2.2 with
      | none => rw [(num_none h3).2]; rfl
      | some q3 =>
        have h3' : rdn 1 q2.2 = some (q3.1, q3.2) := h3
        rw [(num_some h3').2, (num_some h3').1]
        rfl
/-- The whole T is what f makes of what is left; behind a fault it is none. -/
def St {α : Type} (T : Option α) (f : List Int → Option α) : Option (List Int) → Prop
  | none => T = none
  | some r => T = f r
theorem St.num {α : Type} {T : Option α} {f : List Int → Option α} {g : Int → List Int → Option α} {o : Option (List Int)} (n : Nat) (h : St T f o) (hf : ∀ r, f r = (rdn n r).bind fun q => g q.1 q.2) : St T (g (num n o)) (rest n o) := by
  match o with
  | none => exact h
  | some r =>
    have hT : T = f r := h
    rw [hf r] at hT
    cases hr : rdn n r with
    | none => rw [(num_none hr).2]; rw [hr] at hT; exact hT
    | some q =>
      have hr' : rdn n r = some (q.1, q.2) := hr
      rw [(num_some hr').2, (num_some hr').1]
      rw [hr] at hT
      exact hT
theorem inp_ty {o : Option (List Int)} (hB : ∀ l, o = some l → IsBytes l) : Gm.tyIn (inp o) := by
  have h1 := num_lt (n := 1) hB
  have h2 := num_lt (n := 1) (rest_bytes (n := 1) hB)
  have h3 := num_lt (n := 1) (rest_bytes (n := 1) (rest_bytes (n := 1) hB))
  unfold Gm.tyIn inp
  dsimp only
  rw [Im.wrap_i8, Im.wrap_i8]
  omega
/-- Behind the frame, the number of events, k of them. -/
def fEv (fr : Int) (n k : Nat) (acc : List Ev) (r : List Int) : Option (E × List Int) :=
  (decEvs (n - k) acc r).bind fun l => (decInputs in0 l.2).bind fun f => some (⟨fr, l.1, f.1⟩, f.2)
def fIn (fr : Int) (evs : List Ev) (m k : Nat) (f : Nat → Gm.In) (r : List Int) : Option (E × List Int) :=
  (decIns m k (8 - k) f r).bind fun g => some (⟨fr, evs, g.1⟩, g.2)
theorem St.ev {fr : Int} {T : Option (E × List Int)} {n k : Nat} {acc : List Ev} {r : List Int} (hk : k < n) (h : St T (fEv fr n k acc) (some r)) : St T (fEv fr n (k + 1) (acc ++ [ev (some r)])) (evRest (some r)) := by
  have hT : T = fEv fr n k acc r := h
  have hs := ev_step r
  unfold fEv at hT
  rw [show n - k = (n - (k + 1)) + 1 by omega] at hT
  cases he : evRest (some r) with
  | none =>
    rw [he] at hs
    simp only at hs
    show T = none
    rw [hT]
    show ((decEv r).bind _).bind _ = none
    rw [hs]; rfl
  | some r' =>
    rw [he] at hs
    simp only at hs
    show T = fEv fr n (k + 1) (acc ++ [Sx.ev (some r)]) r'
    rw [hT]
    show ((decEv r).bind fun q => decEvs (n - (k + 1)) (acc ++ [q.1]) q.2).bind _ = _
    rw [hs]; rfl
theorem St.evs_end {fr : Int} {T : Option (E × List Int)} {n : Nat} {acc : List Ev} {o : Option (List Int)} (h : St T (fEv fr n n acc) o) : St T (fun r => (rdn 1 r).bind fun q => fIn fr acc q.1.toNat 0 in0 q.2) o := by
  match o with
  | none => exact h
  | some r =>
    have hT : T = fEv fr n n acc r := h
    show T = _
    rw [hT]
    unfold fEv fIn
    rw [Nat.sub_self]
    show (decInputs in0 r).bind _ = _
    unfold decInputs
    rw [Option.bind_assoc]
theorem St.skip {fr : Int} {evs : List Ev} {T : Option (E × List Int)} {m k : Nat} {f : Nat → Gm.In} {o : Option (List Int)} (hk : k < 8) (hm : m.testBit k = false) (h : St T (fIn fr evs m k f) o) : St T (fIn fr evs m (k + 1) f) o := by
  match o with
  | none => exact h
  | some r =>
    have hT : T = fIn fr evs m k f r := h
    show T = _
    rw [hT]
    unfold fIn
    rw [show 8 - k = (8 - (k + 1)) + 1 by omega]
    show (if m.testBit k then _ else _ : Option _).bind _ = _
    rw [hm]; rfl
/-- Behind an input: bad if it was, or if the input is nothing. -/
def inAfter (o : Option (List Int)) : Option (List Int) := if zero (inp o) then none else inRest o
theorem St.input {fr : Int} {evs : List Ev} {T : Option (E × List Int)} {m k : Nat} {f : Nat → Gm.In} {o : Option (List Int)} (hk : k < 8) (hm : m.testBit k = true) (h : St T (fIn fr evs m k f) o) : St T (fIn fr evs m (k + 1) (upd f k (inp o))) (inAfter o) := by
  match o with
  | none =>
    have hT : T = none := h
    unfold inAfter
    split
    · exact hT
    · exact hT
  | some r =>
    have hT : T = fIn fr evs m k f r := h
    have hs := in_step r
    unfold fIn at hT
    rw [show 8 - k = (8 - (k + 1)) + 1 by omega] at hT
    have hT2 : T = ((decIn r).bind fun q => decIns m (k + 1) (8 - (k + 1)) (upd f k q.1) q.2).bind fun g => some (⟨fr, evs, g.1⟩, g.2) := by
      rw [hT]
      show (if m.testBit k then _ else _ : Option _).bind _ = _
      rw [hm]; rfl
    clear hT
    unfold inAfter
    cases he : inRest (some r) with
    | none =>
      rw [he] at hs
      simp only at hs
      rw [hs] at hT2
      split <;> exact hT2
    | some r' =>
      rw [he] at hs
      simp only at hs
      rw [hs] at hT2
      cases hz : zero (Sx.inp (some r))
      · rw [hz] at hT2
        simp only [Bool.false_eq_true, if_false]
        exact hT2
      · rw [hz] at hT2
        simp only [if_true]
        exact hT2
end Sx
namespace Go.Proofs.Ytghomofakpjglaa
open Go.RowKit Go.Shelf
set_option linter.unusedVariables false
set_option linter.unusedSimpArgs false

theorem results_cell1 {P : Program} {fn : Func} {p : Tmp} {ty : TypeId} (h : fn.results = #[.cell p ty]) (tmps : Array Value) (w : World) (g : Nat) (t : TypeId) (cs : Array Value) (d : TypeDesc)
    (hp : tmps.getD p undef = .pointer (some ⟨g, 0, none⟩)) (hg : Box w g t cs) (hu : P.underlying ty = some d) (hd : d.isRow = true) (hi : (P.info? ty).map (·.size) = some cs.size) :
    (results fn tmps).run P w = .ok (.agg cs) w := by
  have hp' : tmps[p]?.getD undef = .pointer (some ⟨g, 0, none⟩) := by simpa using hp
  have hl := run_loadVar_row (P := P) w g t ty cs (0, 0) d hg.is hu (by cases d <;> first | rfl | cases hd) hi
  simp [results, h, hp', asAddr, hl]
theorem in_size : (Try.prog.info? 57).map (·.size) = some 3 := by kernel_rfl
set_option maxRecDepth 100000 in
set_option maxHeartbeats 2000000 in
theorem rinput_any (o : Option (List Int)) (B : Nat) (w : World) (hB : ∀ l, o = some l → Im.IsBytes l) (h : RIs w B o) :
    Calls Try.prog 60 #[.pointer (some ⟨B, 0, none⟩)] w fun e w' => e = .returned (.agg #[.int .i8 (Sx.inp o).x, .int .i8 (Sx.inp o).y, .int .u8 (Sx.inp o).b]) ∧ RIs w' B (Sx.inRest o) ∧ Sol B w w' := by
  have c1 := fun X hX => Lib.hid (rnum_any 1 1 rfl o B X (by decide) hB hX)
  have c2 := fun X hX => Lib.hid (rnum_any 1 1 rfl (Sx.rest 1 o) B X (by decide) (Sx.rest_bytes hB) hX)
  have c3 := fun X hX => Lib.hid (rnum_any 1 1 rfl (Sx.rest 1 (Sx.rest 1 o)) B X (by decide) (Sx.rest_bytes (Sx.rest_bytes hB)) hX)
  have h3 := Sx.num_lt (n := 1) (Sx.rest_bytes (n := 1) (Sx.rest_bytes (n := 1) hB))
  have HR := Lib.hid (show Sx.inRest o = Sx.rest 1 (Sx.rest 1 (Sx.rest 1 o)) from rfl)
  have HX := Lib.hid (show (Sx.inp o).x = IntKind.i8.wrap (Sx.num 1 o) from rfl)
  have HY := Lib.hid (show (Sx.inp o).y = IntKind.i8.wrap (Sx.num 1 (Sx.rest 1 o)) from rfl)
  have HBB := Lib.hid (show (Sx.inp o).b = Sx.num 1 (Sx.rest 1 (Sx.rest 1 o)) from rfl)
  rw [HX.out, HY.out, HBB.out, HR.out]
  generalize Sx.rest 1 (Sx.rest 1 (Sx.rest 1 o)) = o3 at *
  generalize Sx.num 1 (Sx.rest 1 (Sx.rest 1 o)) = v3 at *
  generalize Sx.num 1 (Sx.rest 1 o) = v2 at *
  generalize Sx.num 1 o = v1 at *
  have hw3 : IntKind.u8.wrap v3 = v3 := by rw [IntKind.wrap_u8]; omega
  have R0 := Lib.hid (h.alloc (.cells #[.int .i8 0, .int .i8 0, .int .u8 0] 57))
  have lt0 := h.lt
  clear h hB h3
  go_enter Try.func60, Try.ntmps60
  go_upto_region 2 with (go_at_call 48; ((with_reducible refine ((c1 _ R0.out).out).mono ?_); rintro e w1 ⟨rfl, h1, h2⟩; have R1 := Lib.hid h1; have S1 := Lib.hid h2; clear h1 h2 c1))
  have sz1 := S1.out.size
  have lt1 : B < w1.heap.size := by simp at sz1; omega
  have Q1 := Lib.hid (Box.made w1 57 #[.int .i8 (IntKind.i8.wrap v1), .int .i8 0, .int .u8 0])
  have T1 := Lib.hid (((Box.made w 57 #[.int .i8 0, .int .i8 0, .int .u8 0]).sol S1.out (by omega)).alloc (.cells #[.int .i8 (IntKind.i8.wrap v1), .int .i8 0, .int .u8 0] 57))
  have RR := Lib.hid (R1.out.alloc (.cells #[.int .i8 (IntKind.i8.wrap v1), .int .i8 0, .int .u8 0] 57))
  have SS := Lib.hid ((((Sol.refl B w).call (one_below w (.cells #[.int .i8 0, .int .i8 0, .int .u8 0] 57))).trans S1.out).call (one_below w1 (.cells #[.int .i8 (IntKind.i8.wrap v1), .int .i8 0, .int .u8 0] 57)))
  have hne1 : w1.heap.size ≠ B := by omega
  have hne0 : w.heap.size ≠ B := by omega
  have hne01 : w.heap.size ≠ w1.heap.size := by simp at sz1; omega
  clear R1 S1 R0
  go_upto_region 3 with (go_at_call 48; ((with_reducible refine ((c2 _ RR.out).out).mono ?_); rintro e w2 ⟨rfl, h1, h2⟩; have R2 := Lib.hid h1; have S2 := Lib.hid (SS.out.trans h2); have Q2 := Lib.hid (Q1.out.sol h2 hne1); have T2 := Lib.hid (T1.out.sol h2 hne0); have q2 := Q2.out.cell; have f2 := Q2.out.free; have l2 := Q2.out.lt; clear h1 h2 c2))
  have R3 := Lib.hid (R2.out.off (p := ⟨w1.heap.size, 1, none⟩) Q2.out (by decide) (.int .i8 (IntKind.i8.wrap v2)))
  have S3 := Lib.hid (S2.out.fresh (p := ⟨w1.heap.size, 1, none⟩) (by show w.heap.size ≤ w1.heap.size; simp at sz1; omega) (.int .i8 (IntKind.i8.wrap v2)))
  have Q3 := Lib.hid (Q2.out.put 1 (.int .i8 (IntKind.i8.wrap v2)))
  have T3 := Lib.hid (T2.out.far (p := ⟨w1.heap.size, 1, none⟩) hne01 (.int .i8 (IntKind.i8.wrap v2)))
  generalize w2.setCell ⟨w1.heap.size, 1, none⟩ (.int .i8 (IntKind.i8.wrap v2)) = W3 at *
  clear q2 f2 R2 S2 Q2 T2 l2
  go_upto_region 4 with (go_at_call 48; ((with_reducible refine ((c3 _ R3.out).out).mono ?_); rintro e w4 ⟨rfl, h1, h2⟩; have R4 := Lib.hid h1; have S4 := Lib.hid (S3.out.trans h2); have Q4 := Lib.hid (Q3.out.sol h2 hne1); have T4 := Lib.hid (T3.out.sol h2 hne0); have q4 := Q4.out.cell; have f4 := Q4.out.free; clear h1 h2 c3))
  have R5 := Lib.hid (R4.out.off (p := ⟨w1.heap.size, 2, none⟩) Q4.out (by decide) (.int .u8 v3))
  have S5 := Lib.hid (S4.out.fresh (p := ⟨w1.heap.size, 2, none⟩) (by show w.heap.size ≤ w1.heap.size; simp at sz1; omega) (.int .u8 v3))
  have Q5 := Lib.hid (Q4.out.put 2 (.int .u8 v3))
  have T5 := Lib.hid (T4.out.far (p := ⟨w1.heap.size, 2, none⟩) hne01 (.int .u8 v3))
  generalize w4.setCell ⟨w1.heap.size, 2, none⟩ (.int .u8 v3) = W5 at *
  clear q4 f4 R4 S4 Q4 T4
  have q5 := Q5.out.cell
  have t5 := T5.out.cell
  have u5 := T5.out.free
  go_wp2
  have T6 := ((T5.out.put 0 (.int .i8 (IntKind.i8.wrap v1))).put 1 (.int .i8 (IntKind.i8.wrap v2))).put 2 (.int .u8 v3)
  have R6 := ((R5.out.off (p := ⟨w.heap.size, 0, none⟩) T5.out (by decide) (.int .i8 (IntKind.i8.wrap v1))).off (p := ⟨w.heap.size, 1, none⟩) (T5.out.put 0 (.int .i8 (IntKind.i8.wrap v1))) (by decide) (.int .i8 (IntKind.i8.wrap v2))).off (p := ⟨w.heap.size, 2, none⟩) ((T5.out.put 0 (.int .i8 (IntKind.i8.wrap v1))).put 1 (.int .i8 (IntKind.i8.wrap v2))) (by decide) (.int .u8 v3)
  have S6 := ((S5.out.fresh (p := ⟨w.heap.size, 0, none⟩) (Nat.le_refl _) (.int .i8 (IntKind.i8.wrap v1))).fresh (p := ⟨w.heap.size, 1, none⟩) (Nat.le_refl _) (.int .i8 (IntKind.i8.wrap v2))).fresh (p := ⟨w.heap.size, 2, none⟩) (Nat.le_refl _) (.int .u8 v3)
  exact bodyPost_ret (results_cell1 rfl _ _ w.heap.size 57 _ _ rfl T6 Try.underlying57 rfl in_size) rfl ⟨rfl, R6, S6⟩
end Go.Proofs.Ytghomofakpjglaa
namespace Sx
open Go Im En
def endOf (e : E) : Option (List Int) → Option E
  | some [] => if Ok e then some e else none
  | _ => none
theorem get_end {l : List Int} {fr : Int} {acc : List Ev} {m : Nat} {f : Nat → Gm.In} {o : Option (List Int)} (h : St (dec l) (fIn fr acc m 8 f) o) : En.get l = endOf ⟨fr, acc, f⟩ o := by
  unfold En.get
  match o with
  | none =>
    have h' : dec l = none := h
    rw [h']; rfl
  | some [] =>
    have h' : dec l = some (⟨fr, acc, f⟩, []) := h
    rw [h']
    show (if [] = [] ∧ Ok _ then _ else _) = (if Ok _ then _ else _)
    by_cases hk : Ok ⟨fr, acc, f⟩
    · rw [if_pos ⟨rfl, hk⟩, if_pos hk]
    · rw [if_neg (fun h => hk h.2), if_neg hk]
  | some (x :: r) =>
    have h' : dec l = some (⟨fr, acc, f⟩, x :: r) := h
    rw [h']
    show (if x :: r = [] ∧ Ok (⟨fr, acc, f⟩ : E) then some (⟨fr, acc, f⟩ : E) else none) = none
    rw [if_neg (fun h => by cases h.1)]
end Sx
namespace En
open Go
theorem shr_bit : ∀ (m : Fin 256) (k : Fin 8), bits .and .i64 (((m.val : Nat) : Int) / 2 ^ k.val) 1 = if m.val.testBit k.val then (1 : Int) else 0 := by decide +kernel
end En
namespace Go.Proofs.Ytghomofakpjglaa
open Go.RowKit Go.Shelf
set_option linter.unusedVariables false
set_option linter.unusedSimpArgs false

theorem in_eql (x y b : Int) (w : World) : (binOp .eql 57 (.agg #[.int .i8 x, .int .i8 y, .int .u8 b]) (.agg #[.int .i8 0, .int .i8 0, .int .u8 0])).run Try.prog w = .ok (.bool (En.zero ⟨x, y, b⟩)) w := by
  have h : (Op.equalIn 10000 57 (.agg #[.int .i8 x, .int .i8 y, .int .u8 b]) (.agg #[.int .i8 0, .int .i8 0, .int .u8 0])).run Try.prog w = .ok (En.zero ⟨x, y, b⟩) w := by
    by_cases h1 : x = 0
    · by_cases h2 : y = 0
      · by_cases h3 : b = 0
        · subst h1 h2 h3; go_simp <;> simp [En.zero]
        · have h4 : (b == 0) = false := by simpa using h3
          subst h1 h2; go_simp <;> simp [h4, h3, En.zero]
      · have h4 : (y == 0) = false := by simpa using h2
        subst h1; go_simp <;> simp [h4, h2, En.zero]
    · have h4 : (x == 0) = false := by simpa using h1
      go_simp <;> simp [h4, h1, En.zero]
  generalize #[Value.int .i8 x, .int .i8 y, .int .u8 b] = F at *
  generalize #[Value.int .i8 0, .int .i8 0, .int .u8 0] = G at *
  go_simp
theorem own_sol {w w' : World} {B base n size : Nat} {e t : TypeId} {v : Value} {xs : List Value} {cs : Array Value} (h : w.ownsRow base e size v n xs) (k : Sol B w w') (hB : Box w B t cs) (ht : e ≠ t) : w'.ownsRow base e size v n xs := by
  have hne := hB.unowned h ht
  obtain ⟨hl, h' | ⟨g, cap, cur, rfl, hbg, hg, hr⟩⟩ := h
  · exact ⟨hl, .inl h'⟩
  · have hlt : g < w.heap.size := (Array.getElem?_eq_some_iff.1 hg).1
    exact ⟨hl, .inr ⟨g, cap, cur, rfl, hbg, (k.block g hlt (fun e => hne (by rw [e]; rfl))).trans hg, hr⟩⟩

theorem own_new {w : World} {base n : Nat} {e : TypeId} {size : Nat} {v : Value} {xs : List Value} (h : w.ownsRow base e size v n xs) : v.ownBlock ≠ some w.heap.size := by
  obtain ⟨_, ⟨rfl, _⟩ | ⟨g, cap, cur, rfl, _, hg, _⟩⟩ := h
  · intro h; cases h
  · intro he
    have e' : g = w.heap.size := by injection he
    have := (Array.getElem?_eq_some_iff.1 hg).1
    omega
/-- Where the document's Get stands: its result's variable, its reader, its entry; the entry's row is not block q. -/
structure GI (w : World) (BE : Nat) (e : En.E) (o : Option (List Int)) (q : Option Nat) (W : World) : Prop where
  bytes : ∀ m, o = some m → Im.IsBytes m
  res : Box W w.heap.size 60 En.zeroC
  rd : RIs W (w.heap.size + 1) o
  ent : ∃ A c, Box W BE 60 (En.cells e (.slice A e.evs.length c)) ∧ W.ownsRow w.heap.size 71 4 (.slice A e.evs.length c) e.evs.length (En.evCells e.evs) ∧ ∀ b, q = some b → (Value.slice A e.evs.length c).ownBlock ≠ some b
  keep : Below w.heap.size w W
  lt : w.heap.size + 1 < BE
section
variable {w W W' : World} {BE : Nat} {e : En.E} {o o' : Option (List Int)} {q : Option Nat}
theorem GI.sol (h : GI w BE e o q W) (k : Sol (w.heap.size + 1) W W') (hr : RIs W' (w.heap.size + 1) o') (hB : ∀ m, o' = some m → Im.IsBytes m) : GI w BE e o' q W' := by
  obtain ⟨A, c, h1, h2, h3⟩ := h.ent
  obtain ⟨s, b, hb⟩ := h.rd.box
  exact ⟨hB, h.res.sol k (by omega), hr, ⟨A, c, h1.sol k (by have := h.lt; omega), own_sol h2 k hb (by decide), h3⟩, h.keep.trans (k.below (by omega) h.keep.size), h.lt⟩
theorem GI.call (h : GI w BE e o q W) (hb : Below W.heap.size W W') : GI w BE e o q W' := by
  obtain ⟨A, c, h1, h2, h3⟩ := h.ent
  exact ⟨h.bytes, h.res.below hb h.res.lt, h.rd.below hb h.rd.lt, ⟨A, c, h1.below hb h1.lt, own_below h2 hb (Nat.le_refl _), h3⟩, h.keep.trans (hb.mono h.keep.size), h.lt⟩
theorem GI.mark (h : GI w BE e o q W) (x : Obj) : GI w BE e o (some W.heap.size) (W.alloc x) := by
  obtain ⟨A, c, h1, h2, h3⟩ := h.ent
  have hb := one_below W x
  exact ⟨h.bytes, h.res.below hb h.res.lt, h.rd.below hb h.rd.lt, ⟨A, c, h1.below hb h1.lt, own_below h2 hb (Nat.le_refl _), fun b hb' => by injection hb' with hb'; subst hb'; exact own_new h2⟩, h.keep.trans (hb.mono h.keep.size), h.lt⟩
theorem GI.off {b : Nat} (h : GI w BE e o (some b) W) {cs : Array Value} (hQ : Box W b 71 cs) (hb : w.heap.size ≤ b) (i : Nat) (u : Value) : GI w BE e o (some b) (W.setCell ⟨b, i, none⟩ u) := by
  obtain ⟨A, c, h1, h2, h3⟩ := h.ent
  exact ⟨h.bytes, h.res.far (p := ⟨b, i, none⟩) (Box.apart h.res hQ (by decide)) u, h.rd.off (p := ⟨b, i, none⟩) hQ (by decide) u, ⟨A, c, h1.far (p := ⟨b, i, none⟩) (Box.apart h1 hQ (by decide)) u, ownsRow_setCell_other (a := ⟨b, i, none⟩) h2 (h3 b rfl) u, h3⟩, h.keep.setCell (p := ⟨b, i, none⟩) hb u, h.lt⟩
end
section
variable {w W : World} {BE : Nat} {e : En.E} {o : Option (List Int)}
theorem GI.setin (h : GI w BE e o none W) {j : Nat} (hj : j < 8) (p : Gm.In) : GI w BE { e with inp := En.upd e.inp j p } o none (((W.setCell ⟨BE, 2 + j * 3, none⟩ (.int .i8 p.x)).setCell ⟨BE, 2 + j * 3 + 1, none⟩ (.int .i8 p.y)).setCell ⟨BE, 2 + j * 3 + 2, none⟩ (.int .u8 p.b)) := by
  obtain ⟨A, c, h1, h2, _⟩ := h.ent
  have hlt := h.lt
  have b1 := h1.put (2 + j * 3) (.int .i8 p.x)
  have b2 := b1.put (2 + j * 3 + 1) (.int .i8 p.y)
  have b3 := b2.put (2 + j * 3 + 2) (.int .u8 p.b)
  have o1 := ownsRow_setCell_other (a := ⟨BE, 2 + j * 3, none⟩) h2 (h1.unowned h2 (by decide)) (.int .i8 p.x)
  have o2 := ownsRow_setCell_other (a := ⟨BE, 2 + j * 3 + 1, none⟩) o1 (b1.unowned o1 (by decide)) (.int .i8 p.y)
  have o3 := ownsRow_setCell_other (a := ⟨BE, 2 + j * 3 + 2, none⟩) o2 (b2.unowned o2 (by decide)) (.int .u8 p.b)
  rw [En.cells_setin e _ j hj p] at b3
  exact ⟨h.bytes, ((h.res.far (p := ⟨BE, _, none⟩) (by show w.heap.size ≠ BE; omega) _).far (p := ⟨BE, _, none⟩) (by show w.heap.size ≠ BE; omega) _).far (p := ⟨BE, _, none⟩) (by show w.heap.size ≠ BE; omega) _,
    ((h.rd.off (p := ⟨BE, _, none⟩) h1 (by decide) _).off (p := ⟨BE, _, none⟩) b1 (by decide) _).off (p := ⟨BE, _, none⟩) b2 (by decide) _, ⟨A, c, b3, o3, fun b h => (by cases h)⟩,
    ((h.keep.setCell (p := ⟨BE, _, none⟩) (by show w.heap.size ≤ BE; omega) _).setCell (p := ⟨BE, _, none⟩) (by show w.heap.size ≤ BE; omega) _).setCell (p := ⟨BE, _, none⟩) (by show w.heap.size ≤ BE; omega) _, hlt⟩
theorem GI.setrd {o' : Option (List Int)} (h : GI w BE e o none W) (u : Value) (hr : RIs (W.setCell ⟨w.heap.size + 1, 1, none⟩ u) (w.heap.size + 1) o') (hB : ∀ m, o' = some m → Im.IsBytes m) : GI w BE e o' none (W.setCell ⟨w.heap.size + 1, 1, none⟩ u) := by
  obtain ⟨A, c, h1, h2, _⟩ := h.ent
  obtain ⟨s, b, hb⟩ := h.rd.box
  have hlt := h.lt
  exact ⟨hB, h.res.far (p := ⟨w.heap.size + 1, 1, none⟩) (by show w.heap.size ≠ w.heap.size + 1; omega) _, hr, ⟨A, c, h1.far (p := ⟨w.heap.size + 1, 1, none⟩) (by show BE ≠ w.heap.size + 1; omega) _, ownsRow_setCell_other (a := ⟨w.heap.size + 1, 1, none⟩) h2 (hb.unowned h2 (by decide)) _, fun b h => (by cases h)⟩, h.keep.setCell (p := ⟨w.heap.size + 1, 1, none⟩) (by show w.heap.size ≤ w.heap.size + 1; omega) _, hlt⟩
end
theorem evs1_fill (k s g p : Int) : Instr.fill (fun i => some (i * 4, 4)) ((Array.range (1 * 4)).map ((Value.agg #[.int .i64 0, .int .i64 0, .int .i64 0, .int .i64 0]).cells[· % (Value.agg #[.int .i64 0, .int .i64 0, .int .i64 0, .int .i64 0]).cells.size]!)) [(0, .agg #[.int .i64 k, .int .i64 s, .int .i64 g, .int .i64 p])] = some #[.int .i64 k, .int .i64 s, .int .i64 g, .int .i64 p] := by kernel_rfl
theorem ev_parts : ∃ i, Try.prog.info? 71 = some i ∧ i.zero = some (.agg #[.int .i64 0, .int .i64 0, .int .i64 0, .int .i64 0]) ∧ i.size = 4 ∧ i.bytes = 32 := by
  have h := ev_info
  cases hq : Try.prog.info? 71 with
  | none => rw [hq] at h; cases h
  | some i =>
    rw [hq] at h
    simp only [Option.map_some, Option.some.injEq, Prod.mk.injEq] at h
    exact ⟨i, rfl, h.1, h.2.1, h.2.2⟩
theorem evs1 (k s g p : Int) (W : World) : (Instr.buildSlice 54 1 #[(0, .agg #[.int .i64 k, .int .i64 s, .int .i64 g, .int .i64 p])]).run Try.prog W = .ok (.slice (some ⟨W.heap.size, 0, none⟩) 1 1) (W.alloc (.cells #[.int .i64 k, .int .i64 s, .int .i64 g, .int .i64 p] 71)) := by
  obtain ⟨i, hq, hz, hs, _⟩ := ev_parts
  exact run_buildSlice W _ _ 1 _ _ i _ Try.underlying54 hq hz (by rw [hs]; decide) (by rw [hs]; decide) (by rw [hs]; exact evs1_fill k s g p)
theorem ev_built0 (v : Int) : Try.prog.built 71 [(0, .int .i64 v)] = some #[.int .i64 v, .int .i64 0, .int .i64 0, .int .i64 0] := by kernel_rfl

set_option maxRecDepth 100000 in
set_option maxHeartbeats 8000000 in
theorem refget_own (l : List Int) (w : World) (hB : Im.IsBytes l) :
    Calls Try.prog 31 #[.string (strOfNums l)] w fun r w' =>
      (∃ e A c, En.get l = some e ∧ r = .returned (.tuple #[.agg (En.cells e (.slice A e.evs.length c)), .int .i64 0]) ∧ w'.ownsRow w.heap.size 71 4 (.slice A e.evs.length c) e.evs.length (En.evCells e.evs) ∧ Below w.heap.size w w') ∨
      (En.get l = none ∧ r = .returned (.tuple #[.agg En.zeroC, .int .i64 2]) ∧ Below w.heap.size w w') := by
  have hBo : ∀ m, some l = some m → Im.IsBytes m := fun m hm => by injection hm with hm; subst hm; exact hB
  have ST0 : Sx.St (En.dec l) (fun r => (Im.rdn 4 r).bind fun q => (Im.rdn 1 q.2).bind fun k => Sx.fEv q.1 k.1.toNat 0 [] k.2) (some l) := by
    show En.dec l = _
    unfold En.dec Sx.fEv En.decEvents
    simp only [Option.bind_assoc, Nat.sub_zero]
  have ST1 := ST0.num (g := fun a r => (Im.rdn 1 r).bind fun k => Sx.fEv a k.1.toNat 0 [] k.2) 4 (fun r => rfl)
  have ST2 := ST1.num (g := fun a r => Sx.fEv (Sx.num 4 (some l)) a.toNat 0 [] r) 1 (fun r => rfl)
  have hB1 := Sx.rest_bytes (n := 4) hBo
  have hB2 := Sx.rest_bytes (n := 1) hB1
  have hn1 := Sx.num_lt (n := 4) hBo
  have hn2 := Sx.num_lt (n := 1) hB1
  have c1 := fun X hX => Lib.hid (rint_any 4 4 rfl (some l) (w.heap.size + 1) X (by decide) hBo hX)
  have c2 := fun X hX => Lib.hid (rint_any 1 1 rfl (Sx.rest 4 (some l)) (w.heap.size + 1) X (by decide) hB1 hX)
  generalize Sx.rest 1 (Sx.rest 4 (some l)) = o2 at *
  generalize Sx.num 1 (Sx.rest 4 (some l)) = nn at *
  generalize Sx.rest 4 (some l) = o1 at *
  generalize Sx.num 4 (some l) = fr at *
  obtain ⟨N, rfl⟩ := Int.eq_ofNat_of_zero_le hn2.1
  rw [Int.toNat_natCast] at ST2
  have HST2 := Lib.hid ST2
  have HB1 := Lib.hid hB1
  have HB2 := Lib.hid hB2
  have hN : N < 256 := by have := hn2.2; omega
  have Z0 := Lib.hid ((Box.made w 60 En.zeroC).alloc (.cells #[.string (strOfNums l), .bool false] 91))
  have R0 := Lib.hid (show RIs ((w.alloc (.cells En.zeroC 60)).alloc (.cells #[.string (strOfNums l), .bool false] 91)) (w.heap.size + 1) (some l) from Box.made_at (n := w.heap.size + 1) (w.alloc (.cells En.zeroC 60)) 91 #[.string (strOfNums l), .bool false] (by simp))
  have K0 := Lib.hid (two_below' w (.cells En.zeroC 60) (.cells #[.string (strOfNums l), .bool false] 91))
  have b7 := en_built7 fr
  generalize strOfNums l = sl at *
  clear ST0 ST1 ST2 hB1 hB2 hBo
  go_enter Try.func31, Try.ntmps31
  go_upto_region 3 with (first | (with_reducible refine alloc_en rfl rfl ?_) | (refine wpList_build_is rfl (t := 60) (vs := [(0, .int .i64 fr)]) rfl rfl b7 ?_) | (with_reducible refine en_store_new rfl rfl rfl rfl En.zeroC_size rfl ?_) | (go_at_call 47; ((with_reducible refine ((c1 _ R0.out).out).mono ?_); rintro e w1 ⟨rfl, h1, h2⟩; have R1 := Lib.hid h1; have S1 := Lib.hid h2; clear h1 h2 c1)))
  have sz1 := S1.out.size
  have s1 : w.heap.size + 1 < w1.heap.size := by simp at sz1; omega
  have G1 := Lib.hid (show GI w w1.heap.size ⟨fr, [], En.in0⟩ o1 none (w1.alloc (.cells (En.cells ⟨fr, [], En.in0⟩ (.slice none 0 0)) 60)) from
    ⟨HB1.out, (Z0.out.sol S1.out (by omega)).alloc _, R1.out.alloc _, ⟨none, 0, Box.made _ _ _, ⟨rfl, .inl ⟨rfl, rfl⟩⟩, fun b hb => (by cases hb)⟩, (K0.out.trans (S1.out.below (by omega) (by simp; omega))).alloc (by omega) _, s1⟩)
  generalize w1.alloc (.cells (En.cells ⟨fr, [], En.in0⟩ (.slice none 0 0)) 60) = W1 at *
  generalize w1.heap.size = BE at *
  clear sz1 S1 R1 Z0 R0 K0 b7 hn2
  go_wp2_with (go_at_call 47; ((with_reducible refine ((c2 _ G1.out.rd).out).mono ?_); rintro e w2 ⟨rfl, h1, h2⟩; have G2 := Lib.hid (G1.out.sol h2 h1 HB2.out); clear h1 h2 c2))
  go_loopw [7] (fun i wr => ∃ (k : Nat) (acc : List En.Ev) (o : Option (List Int)), k ≤ N ∧ i = .int .i64 k ∧ acc.length = k ∧ Sx.St (En.dec l) (Sx.fEv fr N k acc) o ∧ GI w BE ⟨fr, acc, En.in0⟩ o none wr) (fun i _ => N - (intOf i).toNat)
  case atStart => exact ⟨0, [], o2, Nat.zero_le _, rfl, rfl, HST2.out, G2.out⟩
  case round =>
    obtain ⟨k, acc, o, hk, rfl, hacc, hst, hgi⟩ := hrel
    have GG := Lib.hid hgi
    have HST := Lib.hid hst
    clear hgi hst
    go_upto_region 5 with fail
    go_cut [28] from 19 to 28 (fun b wx => b = .bool (decide (k < N ∧ o.isSome = true)) ∧ wx = wr)
    case first =>
      by_cases hlt : k < N
      · have hk8 : (k : Int) < N := by omega
        cases o with
        | none =>
          obtain ⟨s, hs⟩ := GG.out.rd
          have r1 := hs.cell 1
          go_wp2_with fail
          go_meet
          exact ⟨by simp, rfl⟩
        | some r =>
          have hs : Box wr (w.heap.size + 1) 91 #[.string (strOfNums r), .bool false] := GG.out.rd
          have r1 := hs.cell 1
          go_wp2_with fail
          go_meet
          exact ⟨by simp [hlt], rfl⟩
      · have hk8 : ¬ (k : Int) < N := by omega
        go_wp2_with fail
        go_meet
        exact ⟨by simp [hlt], rfl⟩
    case rest =>
    obtain ⟨rfl, rfl⟩ := hcut
    by_cases hgo : k < N ∧ o.isSome = true
    · rw [decide_eq_true hgo]
      obtain ⟨hlt, hso⟩ := hgo
      obtain ⟨r, rfl⟩ := Option.isSome_iff_exists.1 hso
      have hr0 := fun m (hm : some r = some m) => GG.out.bytes m hm
      have ca1 := fun X hX => Lib.hid (rint_any 1 1 rfl (some r) (w.heap.size + 1) X (by decide) hr0 hX)
      have hr1 := Sx.rest_bytes (n := 1) hr0
      have ca2 := fun X hX => Lib.hid (rint_any 1 1 rfl (Sx.rest 1 (some r)) (w.heap.size + 1) X (by decide) hr1 hX)
      have hr2 := Sx.rest_bytes (n := 1) hr1
      have ca3 := fun X hX => Lib.hid (rint_any 2 2 rfl (Sx.rest 1 (Sx.rest 1 (some r))) (w.heap.size + 1) X (by decide) hr2 hX)
      have hr3 := Sx.rest_bytes (n := 2) hr2
      have ca4 := fun X hX => Lib.hid (rint_any 1 1 rfl (Sx.rest 2 (Sx.rest 1 (Sx.rest 1 (some r)))) (w.heap.size + 1) X (by decide) hr3 hX)
      have hr4 := Sx.rest_bytes (n := 1) hr3
      have hst2 := HST.out.ev hlt
      have HST2 := Lib.hid (show Sx.St (En.dec l) (Sx.fEv fr N (k + 1) (acc ++ [⟨Sx.num 1 (some r), Sx.num 1 (Sx.rest 1 (some r)), Sx.num 2 (Sx.rest 1 (Sx.rest 1 (some r))), Sx.num 1 (Sx.rest 2 (Sx.rest 1 (Sx.rest 1 (some r))))⟩])) (Sx.rest 1 (Sx.rest 2 (Sx.rest 1 (Sx.rest 1 (some r))))) from hst2)
      generalize Sx.rest 1 (Sx.rest 2 (Sx.rest 1 (Sx.rest 1 (some r)))) = oD at *
      generalize Sx.num 1 (Sx.rest 2 (Sx.rest 1 (Sx.rest 1 (some r)))) = v4 at *
      generalize Sx.rest 2 (Sx.rest 1 (Sx.rest 1 (some r))) = oC at *
      generalize Sx.num 2 (Sx.rest 1 (Sx.rest 1 (some r))) = v3 at *
      generalize Sx.rest 1 (Sx.rest 1 (some r)) = oB at *
      generalize Sx.num 1 (Sx.rest 1 (some r)) = v2 at *
      generalize Sx.rest 1 (some r) = oA at *
      generalize Sx.num 1 (some r) = v1 at *
      have H1 := Lib.hid hr1
      have H2 := Lib.hid hr2
      have H3 := Lib.hid hr3
      have H4 := Lib.hid hr4
      clear hr0 hr1 hr2 hr3 hr4 hst2 HST hso
      go_upto_region 8 with (first | (refine wpList_build_is rfl (t := 71) (vs := [(0, .int .i64 v1)]) rfl rfl (ev_built0 v1) ?_) | (go_at_call 47; ((with_reducible refine ((ca1 _ GG.out.rd).out).mono ?_); rintro e w3 ⟨rfl, h1, h2⟩; have G3 := Lib.hid (GG.out.sol h2 h1 H1.out); clear h1 h2 ca1)))
      have GA := Lib.hid (G3.out.mark (.cells #[.int .i64 v1, .int .i64 0, .int .i64 0, .int .i64 0] 71))
      have QA := Lib.hid (Box.made w3 71 #[.int .i64 v1, .int .i64 0, .int .i64 0, .int .i64 0])
      have bq1 : w.heap.size + 1 < w3.heap.size := G3.out.rd.lt
      have bq2 : w3.heap.size ≠ w.heap.size + 1 := by omega
      generalize w3.alloc (.cells #[.int .i64 v1, .int .i64 0, .int .i64 0, .int .i64 0] 71) = W3 at *
      generalize w3.heap.size = BQ at *
      clear G3 GG
      go_upto_region 9 with (go_at_call 47; ((with_reducible refine ((ca2 _ GA.out.rd).out).mono ?_); rintro e w4 ⟨rfl, h1, h2⟩; have GX := Lib.hid (GA.out.sol h2 h1 H2.out); have QX := Lib.hid (QA.out.sol h2 bq2); have qx := QX.out.cell; have fx := QX.out.free; have lx := QX.out.lt; clear h1 h2 ca2 GA QA))
      have GB := Lib.hid (GX.out.off QX.out (by omega) 1 (.int .i64 v2))
      have QB := Lib.hid (QX.out.put 1 (.int .i64 v2))
      generalize w4.setCell ⟨BQ, 1, none⟩ (.int .i64 v2) = W4 at *
      clear qx fx lx GX QX
      go_upto_region 10 with (go_at_call 47; ((with_reducible refine ((ca3 _ GB.out.rd).out).mono ?_); rintro e w5 ⟨rfl, h1, h2⟩; have GX := Lib.hid (GB.out.sol h2 h1 H3.out); have QX := Lib.hid (QB.out.sol h2 bq2); have qx := QX.out.cell; have fx := QX.out.free; have lx := QX.out.lt; clear h1 h2 ca3 GB QB))
      have GC := Lib.hid (GX.out.off QX.out (by omega) 2 (.int .i64 v3))
      have QC := Lib.hid (QX.out.put 2 (.int .i64 v3))
      generalize w5.setCell ⟨BQ, 2, none⟩ (.int .i64 v3) = W5 at *
      clear qx fx lx GX QX
      go_upto_region 11 with (go_at_call 47; ((with_reducible refine ((ca4 _ GC.out.rd).out).mono ?_); rintro e w6 ⟨rfl, h1, h2⟩; have GX := Lib.hid (GC.out.sol h2 h1 H4.out); have QX := Lib.hid (QC.out.sol h2 bq2); have qx := QX.out.cell; have fx := QX.out.free; have lx := QX.out.lt; clear h1 h2 ca4 GC QC))
      have GD := Lib.hid (GX.out.off QX.out (by omega) 3 (.int .i64 v4))
      have QD := Lib.hid (QX.out.put 3 (.int .i64 v4))
      generalize w6.setCell ⟨BQ, 3, none⟩ (.int .i64 v4) = W6 at *
      clear qx fx lx GX QX
      have QE := Lib.hid (show Box W6 BQ 71 #[.int .i64 v1, .int .i64 v2, .int .i64 v3, .int .i64 v4] from QD.out)
      obtain ⟨A, c, hBE, hO, _⟩ := GD.out.ent
      dsimp only at hBE hO
      rw [hacc] at hBE hO
      have n1 := (hBE.cell 1).trans (En.cells_1 _ _)
      have qe := QE.out.cell
      have HBE := Lib.hid hBE
      have HOW := Lib.hid hO
      have sl1 := evs1 v1 v2 v3 v4
      obtain ⟨i0, hi0, hz0, hz1, hz2⟩ := ev_parts
      have hI := Lib.hid hi0
      have hZ := Lib.hid hz0
      have hS := Lib.hid hz1
      have hY := Lib.hid hz2
      have kB := GD.out.keep.size
      clear hBE hO hi0 hz0 hz1 hz2 QD
      go_upto_region 6 with ((with_reducible refine append_gate (t := 54) (e := 71) (size := 4) (bytes := 32) rfl rfl Try.underlying54 hI.out hZ.out hS.out hY.out rfl (by decide) ?_); refine Appends.mk (base := w.heap.size) (n := k) (xs := En.evCells acc) rfl (HOW.out.alloc _) (Lies.boxed (n := 1) (size := 4) (xs := [Value.int .i64 v1, .int .i64 v2, .int .i64 v3, .int .i64 v4]) (Box.made W6 71 #[.int .i64 v1, .int .i64 v2, .int .i64 v3, .int .i64 v4]) rfl) (by intro u hu; simp at hu; rcases hu with rfl | rfl | rfl | rfl <;> rfl) (by unfold maxLen; omega) (by omega) (by simp; omega) ?_; intro A7 c7 w7 own7 hg7; have OW7 := Lib.hid own7; have HG7 := Lib.hid hg7; have B7 := Lib.hid (grown_box HBE.out HOW.out (by decide) hg7); have b7 := B7.out.cell; have f7 := B7.out.free; have l7 := B7.out.lt; clear own7 hg7)
      have hlen : (acc ++ [(⟨v1, v2, v3, v4⟩ : En.Ev)]).length = k + 1 := by rw [List.length_append, hacc]; rfl
      have hcel : En.evCells (acc ++ [(⟨v1, v2, v3, v4⟩ : En.Ev)]) = En.evCells acc ++ [Value.int .i64 v1, .int .i64 v2, .int .i64 v3, .int .i64 v4] := by unfold En.evCells; rw [List.flatMap_append]; rfl
      have hBne : BE ≠ w.heap.size := by have := GD.out.lt; omega
      have G8 := Lib.hid (show GI w BE ⟨fr, acc ++ [⟨v1, v2, v3, v4⟩], En.in0⟩ oD none (w7.setCell ⟨BE, 1, none⟩ (.slice A7 (k + 1) c7)) from by
        obtain ⟨s, b, hb⟩ := GD.out.rd.box
        refine ⟨GD.out.bytes, (grown_box GD.out.res HOW.out (by decide) HG7.out).far (p := ⟨BE, 1, none⟩) (fun e => hBne e.symm) _, (GD.out.rd.stays ((grown_box hb HOW.out (by decide) HG7.out).is.trans hb.is.symm)).off (p := ⟨BE, 1, none⟩) B7.out (by decide) _, ⟨A7, c7, ?_, ?_, fun b h => (by cases h)⟩, (below_gone (GD.out.keep.alloc kB _) HG7.out (own_at HOW.out) (Nat.le_refl _)).setCell (p := ⟨BE, 1, none⟩) (by have := GD.out.lt; show w.heap.size ≤ BE; omega) _, GD.out.lt⟩
        · dsimp only
          rw [hlen]
          exact B7.out.put 1 (.slice A7 (k + 1) c7)
        · dsimp only
          rw [hlen, hcel]
          exact ownsRow_setCell_other (a := ⟨BE, 1, none⟩) OW7.out (B7.out.unowned OW7.out (by decide)) _)
      clear n1 qe b7 f7 l7
      go_wp2
      go_roundw
      case rel => exact ⟨k + 1, _, oD, by omega, by go_num, hlen, HST2.out, G8.out⟩
      case measure => simp [intOf]; omega
    · rw [decide_eq_false hgo]
      have hst3 : Sx.St (En.dec l) (fun r => (Im.rdn 1 r).bind fun q => Sx.fIn fr acc q.1.toNat 0 En.in0 q.2) o := by
        cases o with
        | none => exact HST.out
        | some r =>
          obtain rfl : k = N := by
            refine Classical.byContradiction fun hne => hgo ⟨by omega, rfl⟩
          exact HST.out.evs_end
      have hbo := GG.out.bytes
      have cm := fun X hX => Lib.hid (rint_any 1 1 rfl o (w.heap.size + 1) X (by decide) hbo hX)
      have hst4 := hst3.num (g := fun a r => Sx.fIn fr acc a.toNat 0 En.in0 r) 1 (fun r => rfl)
      have hb4 := Sx.rest_bytes (n := 1) hbo
      have hm := Sx.num_lt (n := 1) hbo
      generalize Sx.rest 1 o = p at *
      generalize Sx.num 1 o = mm at *
      obtain ⟨M, rfl⟩ := Int.eq_ofNat_of_zero_le hm.1
      rw [Int.toNat_natCast] at hst4
      have hM : M < 256 := by have := hm.2; omega
      have HB4 := Lib.hid hb4
      have HST4 := Lib.hid hst4
      clear hst3 hst4 hb4 hbo hm HST hgo
      go_wp2_with (go_at_call 47; ((with_reducible refine ((cm _ GG.out.rd).out).mono ?_); rintro e w3 ⟨rfl, h1, h2⟩; have G3 := Lib.hid (GG.out.sol h2 h1 HB4.out); clear h1 h2 cm))
      go_loopw [10] (fun i wr => ∃ (j : Nat) (f : Nat → Gm.In) (o : Option (List Int)), j ≤ 8 ∧ i = .int .i64 j ∧ Sx.St (En.dec l) (Sx.fIn fr acc M j f) o ∧ GI w BE ⟨fr, acc, f⟩ o none wr ∧ ∀ i, i < 8 → Gm.tyIn (f i)) (fun i _ => 8 - (intOf i).toNat)
      case atStart => exact ⟨0, En.in0, p, Nat.zero_le _, rfl, HST4.out, G3.out, En.in0_ty⟩
      case round =>
        obtain ⟨j, f, o', hj, rfl, hst, hgi, hfty⟩ := hrel
        have GJ := Lib.hid hgi
        have HSJ := Lib.hid hst
        clear hgi hst G3 HST4
        by_cases hlt : j < 8
        · have hj8 : (j : Int) < 8 := by omega
          have hsh := En.shr_bit ⟨M, hM⟩ ⟨j, hlt⟩
          dsimp only at hsh
          cases hbit : M.testBit j
          · rw [hbit] at hsh
            simp only [Bool.false_eq_true, if_false] at hsh
            have HS2 := Lib.hid (HSJ.out.skip hlt hbit)
            clear hbit
            go_wp2
            go_roundw
            case rel => exact ⟨j + 1, f, o', by omega, by go_num, HS2.out, GJ.out, hfty⟩
            case measure => simp [intOf]; omega
          · rw [hbit] at hsh
            simp only [if_true] at hsh
            have HS2 := Lib.hid (HSJ.out.input hlt hbit)
            clear hbit
            have hbo := GJ.out.bytes
            have ci := fun X hX => Lib.hid (rinput_any o' (w.heap.size + 1) X hbo hX)
            have hbr : ∀ m, Sx.inRest o' = some m → Im.IsBytes m := Sx.rest_bytes (n := 1) (Sx.rest_bytes (n := 1) (Sx.rest_bytes (n := 1) hbo))
            have hty2 := Sx.inp_ty hbo
            have haf : Sx.inAfter o' = if En.zero (Sx.inp o') then none else Sx.inRest o' := rfl
            rw [haf] at HS2
            generalize Sx.inRest o' = oR at *
            generalize Sx.inp o' = pp at *
            obtain ⟨x, y, u⟩ := pp
            dsimp only at ci
            have HBR := Lib.hid hbr
            have hieq := fun W => in_eql x y u W
            clear hbo hbr haf HSJ
            go_upto_region 18 with (go_at_call 60; ((with_reducible refine ((ci _ GJ.out.rd).out).mono ?_); rintro e w4 ⟨rfl, h1, h2⟩; have G4 := Lib.hid (GJ.out.sol h2 h1 HBR.out); obtain ⟨A4, c4, hB4, hO4, _⟩ := G4.out.ent; have b4 := (hB4.cell (2 + j * 3)).trans (En.cells_in _ _ j 0 hlt (by omega)); have b5 := (hB4.cell (2 + j * 3 + 1)).trans (En.cells_in _ _ j 1 hlt (by omega)); have b6 := (hB4.cell (2 + j * 3 + 2)).trans (En.cells_in _ _ j 2 hlt (by omega)); (simp only [Gm.In.cells, List.getElem?_cons_zero, List.getElem?_cons_succ, Nat.add_zero] at b4 b5 b6); have f4 := hB4.free; have l4 := hB4.lt; clear h1 h2 ci hB4 hO4))
            have G5 := Lib.hid (G4.out.setin hlt ⟨x, y, u⟩)
            dsimp only at G5
            generalize ((w4.setCell ⟨BE, 2 + j * 3, none⟩ (.int .i8 x)).setCell ⟨BE, 2 + j * 3 + 1, none⟩ (.int .i8 y)).setCell ⟨BE, 2 + j * 3 + 2, none⟩ (.int .u8 u) = W5 at *
            clear b4 b5 b6 f4 l4 G4 GJ
            have hfty2 : ∀ i, i < 8 → Gm.tyIn (En.upd f j ⟨x, y, u⟩ i) := fun i hi => by
              by_cases e : i = j
              · subst e; rw [En.upd_same]; exact hty2
              · rw [En.upd_other _ _ e]; exact hfty i hi
            obtain ⟨A5, c5, hB5, _, _⟩ := G5.out.ent
            have e0 := (hB5.cell (2 + j * 3)).trans (En.cells_in _ _ j 0 hlt (by omega))
            have e1 := (hB5.cell (2 + j * 3 + 1)).trans (En.cells_in _ _ j 1 hlt (by omega))
            have e2 := (hB5.cell (2 + j * 3 + 2)).trans (En.cells_in _ _ j 2 hlt (by omega))
            dsimp only at e0 e1 e2
            rw [En.upd_same] at e0 e1 e2
            simp only [Gm.In.cells, List.getElem?_cons_zero, List.getElem?_cons_succ, Nat.add_zero] at e0 e1 e2
            have l5 := hB5.lt
            clear hB5
            cases oR with
            | none =>
              obtain ⟨s, hs⟩ := G5.out.rd
              have r1 := hs.cell 1
              have r2 := hs.free 1
              have G6 := Lib.hid (G5.out.setrd (.bool true) G5.out.rd.bad (fun m hm => (by cases hm)))
              have HS3 := Lib.hid (show Sx.St (En.dec l) (Sx.fIn fr acc M (j + 1) (En.upd f j ⟨x, y, u⟩)) none from by have := HS2.out; split at this <;> exact this)
              clear hs HS2
              go_wp2
              go_roundw
              case rel => exact ⟨j + 1, _, none, by omega, by go_num, HS3.out, G6.out, hfty2⟩
              case measure => simp [intOf]; omega
            | some r' =>
              have hs : Box W5 (w.heap.size + 1) 91 #[.string (strOfNums r'), .bool false] := G5.out.rd
              have r1 := hs.cell 1
              have r2 := hs.free 1
              cases hz : En.zero ⟨x, y, u⟩
              · rw [hz] at hieq HS2
                have G6 := Lib.hid (G5.out.setrd (.bool false) (show RIs _ _ (some r') from hs.put 1 (.bool false)) G5.out.bytes)
                clear hs hz
                go_wp2
                go_roundw
                case rel => exact ⟨j + 1, _, some r', by omega, by go_num, HS2.out, G6.out, hfty2⟩
                case measure => simp [intOf]; omega
              · rw [hz] at hieq HS2
                have G6 := Lib.hid (G5.out.setrd (.bool true) G5.out.rd.bad (fun m hm => (by cases hm)))
                clear hs hz
                go_wp2
                go_roundw
                case rel => exact ⟨j + 1, _, none, by omega, by go_num, HS2.out, G6.out, hfty2⟩
                case measure => simp [intOf]; omega
        · have hj8 : ¬ (j : Int) < 8 := by omega
          obtain rfl : j = 8 := by omega
          have hget := Sx.get_end HSJ.out
          have hbo := GJ.out.bytes
          have ce := fun X hX => Lib.hid (rend_any o' (w.heap.size + 1) X hbo hX)
          obtain ⟨A, c, hBE, hO, _⟩ := GJ.out.ent
          dsimp only at hBE hO
          have BB := Lib.hid hBE
          have OO := Lib.hid hO
          have ZZ := Lib.hid GJ.out.res
          have KK := Lib.hid GJ.out.keep
          have RR := Lib.hid GJ.out.rd
          have h63 : acc.length ≤ maxLen := by rw [hacc]; unfold maxLen; omega
          clear hacc
          have cmy := fun X hX => Lib.hid (refmayen_any ⟨fr, acc, f⟩ A acc.length c X rfl h63 hfty hX)
          have hL0 := Lib.hid (Lies.owned hO)
          clear HSJ hBE hO hbo GJ
          by_cases hend : Sx.ended o' = true
          · rw [hend] at ce
            have ho : o' = some [] := by
              unfold Sx.ended at hend
              split at hend
              · rfl
              · cases hend
            subst ho
            by_cases hok : En.Ok ⟨fr, acc, f⟩
            · rw [decide_eq_true hok] at cmy
              have HG := Lib.hid (show En.get l = some ⟨fr, acc, f⟩ from by rw [hget]; show (if En.Ok ⟨fr, acc, f⟩ then _ else _) = _; rw [if_pos hok])
              clear hget hok hend
              go_wp2_with (first | ((with_reducible refine en_load_g ?_ rfl ?_); (focus first | rfl | kernel_rfl | simp [Region.wanted, yielded]); apply LoadEn.mk rfl; (focus (with_reducible exact BB.out)); dsimp only) | ((with_reducible refine en_load rfl rfl ?_); apply LoadEn.mk rfl; (focus (with_reducible exact B2.out)); dsimp only) | ((with_reducible refine blk_gate (t := 60) (size := 26) rfl rfl en_info ?_); refine StoreBlk.mk (B := w.heap.size) rfl rfl Z2.out (En.cells_one _ _ rfl) (En.cells_size _ _) En.zeroC_size ?_) | (go_at_call 50; ((with_reducible refine ((ce _ RR.out).out).mono ?_); rintro e w4 ⟨rfl, rfl⟩)) | (go_at_call 26; ((with_reducible refine ((cmy _ hL0.out).out).mono ?_); rintro e w5 ⟨rfl, hb⟩; have B2 := Lib.hid (BB.out.below hb BB.out.lt); have Z2 := Lib.hid (ZZ.out.below hb ZZ.out.lt); have O2 := Lib.hid (own_below OO.out hb (Nat.le_refl _)); have K2 := Lib.hid (KK.out.trans (hb.mono KK.out.size)); clear hb)))
              exact bodyPost_ret (results_cell_tmp rfl _ _ w.heap.size 60 _ _ rfl (Z2.out.row (En.cells ⟨fr, acc, f⟩ (.slice A acc.length c))) Try.underlying60 rfl en_info) rfl (.inl ⟨⟨fr, acc, f⟩, A, c, HG.out, rfl, own_setRow O2.out (Z2.out.unowned O2.out (by decide)) _, Below.setRow' K2.out (Nat.le_refl _) _⟩)
            · rw [decide_eq_false hok] at cmy
              have HG := Lib.hid (show En.get l = none from by rw [hget]; show (if En.Ok ⟨fr, acc, f⟩ then _ else _) = _; rw [if_neg hok])
              clear hget hok hend
              go_wp2_with (first | ((with_reducible refine en_load_g ?_ rfl ?_); (focus first | rfl | kernel_rfl | simp [Region.wanted, yielded]); apply LoadEn.mk rfl; (focus (with_reducible exact BB.out)); dsimp only) | (refine wpList_build_is rfl (t := 60) (vs := []) rfl rfl en_built ?_) | ((with_reducible refine blk_gate (t := 60) (size := 26) rfl rfl en_info ?_); refine StoreBlk.mk (B := w.heap.size) rfl rfl Z2.out en_zero_one En.zeroC_size En.zeroC_size ?_) | (go_at_call 50; ((with_reducible refine ((ce _ RR.out).out).mono ?_); rintro e w4 ⟨rfl, rfl⟩)) | (go_at_call 26; ((with_reducible refine ((cmy _ hL0.out).out).mono ?_); rintro e w5 ⟨rfl, hb⟩; have Z2 := Lib.hid (ZZ.out.below hb ZZ.out.lt); have K2 := Lib.hid (KK.out.trans (hb.mono KK.out.size)); clear hb)))
              exact bodyPost_ret (results_cell_tmp rfl _ _ w.heap.size 60 _ _ rfl (Z2.out.row En.zeroC) Try.underlying60 rfl (by rw [En.zeroC_size]; exact en_info)) rfl (.inr ⟨HG.out, rfl, Below.setRow' K2.out (Nat.le_refl _) _⟩)
          · have hef : Sx.ended o' = false := by simpa using hend
            rw [hef] at ce
            have HG := Lib.hid (show En.get l = none from by
              rw [hget]
              match o', hef with
              | none, _ => rfl
              | some (x :: r), _ => rfl
              | some [], h => cases h)
            clear hget hend hef
            go_wp2_with (first | (refine wpList_build_is rfl (t := 60) (vs := []) rfl rfl en_built ?_) | ((with_reducible refine blk_gate (t := 60) (size := 26) rfl rfl en_info ?_); refine StoreBlk.mk (B := w.heap.size) rfl rfl ZZ.out en_zero_one En.zeroC_size En.zeroC_size ?_) | (go_at_call 50; ((with_reducible refine ((ce _ RR.out).out).mono ?_); rintro e w4 ⟨rfl, rfl⟩)))
            exact bodyPost_ret (results_cell_tmp rfl _ _ w.heap.size 60 _ _ rfl (ZZ.out.row En.zeroC) Try.underlying60 rfl (by rw [En.zeroC_size]; exact en_info)) rfl (.inr ⟨HG.out, rfl, Below.setRow' KK.out (Nat.le_refl _) _⟩)
theorem refget_any (l : List Int) (w : World) (hB : Im.IsBytes l) :
    Calls Try.prog 31 #[.string (strOfNums l)] w fun r w' =>
      (∃ e A c, En.get l = some e ∧ r = .returned (.tuple #[.agg (En.cells e (.slice A e.evs.length c)), .int .i64 0]) ∧ Lies w' w'.heap.size 4 A e.evs.length (En.evCells e.evs) ∧ Below w.heap.size w w') ∨
      (En.get l = none ∧ r = .returned (.tuple #[.agg En.zeroC, .int .i64 2]) ∧ Below w.heap.size w w') := by
  refine (refget_own l w hB).mono ?_
  rintro r w' (⟨e, A, c, h1, h2, h3, h4⟩ | h)
  · exact .inl ⟨e, A, c, h1, h2, Lies.owned h3, h4⟩
  · exact .inr h
end Go.Proofs.Ytghomofakpjglaa
