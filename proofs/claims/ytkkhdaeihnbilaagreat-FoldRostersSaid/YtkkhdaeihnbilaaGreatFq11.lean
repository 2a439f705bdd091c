/-
Several texts in one: Er I3 I5 So Sd Se Sf.
-/
import Derived.Test.YtkkhdaeihnbilaaGreatFq10
namespace En
open Go
set_option linter.unusedVariables false
/-- The document's own state: which kind it is at, behind which slot. -/
def At (kd sl z : Int) : Prop := (kd = 2 ∧ (-1 ≤ sl ∧ sl ≤ 7) ∧ z = sl) ∨ (kd = 1 ∧ (0 ≤ sl ∧ sl ≤ 7) ∧ z = 8 + sl)
end En
namespace Go.Proofs.YtkkhdaeihnbilaaGreat
open Go.RowKit Go.Shelf
set_option linter.unusedVariables false
set_option linter.unusedSimpArgs false

theorem refmayin_any (x y b : Int) (w : World) (hx : -128 ≤ x) (hy : -128 ≤ y) :
    Calls Tryz.prog 62 #[.agg #[.int .i8 x, .int .i8 y, .int .u8 b]] w fun e w' => e = .returned (.bool (decide (-127 ≤ x ∧ -127 ≤ y))) ∧ Below w.heap.size w w' := by
  by_cases h1 : x = -128
  · subst h1
    go_enter Tryz.func62, Tryz.ntmps62
    go_wp2
    go_ret
    exact ⟨ret_bool (by simp), one_below _ _⟩
  · have e1 : (x != -128) = true := by simpa using h1
    by_cases h2 : y = -128
    · subst h2
      go_enter Tryz.func62, Tryz.ntmps62
      go_wp2
      go_ret
      exact ⟨ret_bool (by simp), one_below _ _⟩
    · have e2 : (y != -128) = true := by simpa using h2
      have hd : decide (-127 ≤ x ∧ -127 ≤ y) = true := decide_eq_true (by omega)
      rw [hd]
      go_enter Tryz.func62, Tryz.ntmps62
      go_wp2
      go_ret
      exact ⟨ret_bool (by simp), one_below _ _⟩

set_option maxRecDepth 100000 in
set_option maxHeartbeats 8000000 in
theorem refmayen_any (e : En.E) (A : Option Addr) (n c : Nat) (w : World) (hn : n = e.evs.length) (hn63 : n ≤ maxLen) (hty : ∀ i, i < 8 → Gm.tyIn (e.inp i)) (hL : Lies w w.heap.size 4 A n (En.evCells e.evs)) :
    Calls Tryz.prog 30 #[.agg (En.cells e (.slice A n c))] w fun r w' => r = .returned (.bool (decide (En.Ok e))) ∧ Below w.heap.size w w' := by
  obtain ⟨d, hv⟩ : ∃ d, d = decide (En.Ok e) := ⟨_, rfl⟩
  rw [← hv]
  have HV := Lib.hid hv
  have HN := Lib.hid hn
  clear hv hn
  have P0 := Lib.hid (Box.made w 42 (En.cells e (.slice A n c)))
  have K0 := Lib.hid (one_below w (.cells (En.cells e (.slice A n c)) 42))
  have hr0 := Lib.hid ((hL.below K0.out).wider K0.out.size)
  have c0 := P0.out.cell 0
  have c1 := P0.out.cell 1
  rw [En.cells_0] at c0
  rw [En.cells_1] at c1
  have n63 : (n : Int) ≤ 9223372036854775807 := by unfold maxLen at hn63; omega
  clear hL hn63
  by_cases hf1 : e.frame < 0
  · have hno := Lib.hid (show ¬ En.Ok e from fun h => by have := h.frame; omega)
    go_enter Tryz.func30, Tryz.ntmps30
    go_wp2
    go_ret
    exact ⟨ret_bool (by rw [HV.out]; exact (decide_eq_false hno.out).symm), K0.out⟩
  by_cases hf2 : 1048576 ≤ e.frame
  · have hno := Lib.hid (show ¬ En.Ok e from fun h => by have := h.frame; omega)
    go_enter Tryz.func30, Tryz.ntmps30
    go_wp2
    go_ret
    exact ⟨ret_bool (by rw [HV.out]; exact (decide_eq_false hno.out).symm), K0.out⟩
  have HF := Lib.hid (show 0 ≤ e.frame ∧ e.frame < 1048576 by omega)
  go_enter Tryz.func30, Tryz.ntmps30
  go_wp2
  go_loopw [3, 4, 5] (fun kv sv i wr => ∃ (k : Nat) (kd sl z : Int), k ≤ n ∧ i = .int .i64 k ∧ kv = .int .i64 kd ∧ sv = .int .i64 sl ∧ En.At kd sl z ∧ (En.Row (-1) e.evs ↔ En.Row z (e.evs.drop k)) ∧ Below (w.alloc (.cells (En.cells e (.slice A n c)) 42)).heap.size (w.alloc (.cells (En.cells e (.slice A n c)) 42)) wr) (fun _ _ i _ => n - (intOf i).toNat)
  case atStart => exact ⟨0, 2, -1, -1, by omega, rfl, rfl, rfl, .inl ⟨rfl, by omega, rfl⟩, Iff.rfl, Below.refl _ _⟩
  case round =>
    obtain ⟨k, kd, sl, z, hk, rfl, rfl, rfl, hat, hrow, hb⟩ := hrel
    have p1 := ((P0.out.below hb P0.out.lt).cell 1).trans (En.cells_1 _ _)
    have HB := Lib.hid hb
    have KB := Lib.hid (K0.out.trans (hb.mono K0.out.size))
    by_cases hlt : k < n
    · have hk8 : (k : Int) < n := by omega
      have hkl : k < e.evs.length := by have := HN.out; omega
      obtain ⟨ad, rfl, hbl, e0, e1, e2, e3⟩ := evs_at (hr0.out.below hb) HN.out k hkl
      rw [List.drop_eq_getElem_cons hkl] at hrow
      generalize hv : e.evs[k] = v at e0 e1 e2 e3 hrow
      obtain ⟨vk, vs, vg, vp⟩ := v
      dsimp only at e0 e1 e2 e3
      have hrow' : En.Row (-1) e.evs ↔ (En.evOk ⟨vk, vs, vg, vp⟩ ∧ z < En.place ⟨vk, vs, vg, vp⟩) ∧ En.Row (En.place ⟨vk, vs, vg, vp⟩) (e.evs.drop (k + 1)) := hrow
      have HW := Lib.hid hrow'
      have sz := hb.size
      have ltA : ad.block < wr.heap.size := Nat.lt_of_lt_of_le hbl hb.size
      have ltP := (P0.out.below hb P0.out.lt).lt
      have Q1 := Lib.hid (Box.made wr 61 #[.int .i64 vk, .int .i64 vs, .int .i64 vg, .int .i64 vp])
      have K1 := Lib.hid (KB.out.alloc KB.out.size (.cells #[.int .i64 vk, .int .i64 vs, .int .i64 vg, .int .i64 vp] 61))
      have KX := Lib.hid (HB.out.alloc HB.out.size (.cells #[.int .i64 vk, .int .i64 vs, .int .i64 vg, .int .i64 vp] 61))
      have q1 := Q1.out.cell
      have HAT := Lib.hid hat
      clear hrow hrow' hb hv hat
      rcases HAT.out with ⟨rfl, hs, rfl⟩ | ⟨rfl, hs, rfl⟩
      · by_cases k1 : vk = 1
        · subst k1
          have HPL := Lib.hid (show En.place ⟨1, vs, vg, vp⟩ = 8 + vs from rfl)
          by_cases t1 : vs ≤ -1
          · have HNO := Lib.hid (show ¬ (En.evOk ⟨1, vs, vg, vp⟩ ∧ z < En.place ⟨1, vs, vg, vp⟩) from fun h => by obtain ⟨⟨_, h2, _⟩, h5⟩ := h; rw [HPL.out] at h5; dsimp only at h2 h5; omega)
            go_wp2
            go_ret
            exact ⟨ret_bool (by rw [HV.out]; exact (decide_eq_false fun h => absurd (HW.out.1 h.row).1 HNO.out).symm), K1.out⟩
          by_cases t2 : 8 ≤ vs
          · have HNO := Lib.hid (show ¬ (En.evOk ⟨1, vs, vg, vp⟩ ∧ z < En.place ⟨1, vs, vg, vp⟩) from fun h => by obtain ⟨⟨_, h2, h3, h4⟩, _⟩ := h; dsimp only at h2 h3 h4; omega)
            go_wp2
            go_ret
            exact ⟨ret_bool (by rw [HV.out]; exact (decide_eq_false fun h => absurd (HW.out.1 h.row).1 HNO.out).symm), K1.out⟩
          by_cases t3 : vg < 1
          · have HNO := Lib.hid (show ¬ (En.evOk ⟨1, vs, vg, vp⟩ ∧ z < En.place ⟨1, vs, vg, vp⟩) from fun h => by obtain ⟨⟨_, h2, h3, h4⟩, _⟩ := h; dsimp only at h2 h3 h4; omega)
            go_wp2
            go_ret
            exact ⟨ret_bool (by rw [HV.out]; exact (decide_eq_false fun h => absurd (HW.out.1 h.row).1 HNO.out).symm), K1.out⟩
          by_cases t4 : 60000 < vg
          · have HNO := Lib.hid (show ¬ (En.evOk ⟨1, vs, vg, vp⟩ ∧ z < En.place ⟨1, vs, vg, vp⟩) from fun h => by obtain ⟨⟨_, h2, h3, h4⟩, _⟩ := h; dsimp only at h2 h3 h4; omega)
            go_wp2
            go_ret
            exact ⟨ret_bool (by rw [HV.out]; exact (decide_eq_false fun h => absurd (HW.out.1 h.row).1 HNO.out).symm), K1.out⟩
          by_cases t5 : vp < 0
          · have HNO := Lib.hid (show ¬ (En.evOk ⟨1, vs, vg, vp⟩ ∧ z < En.place ⟨1, vs, vg, vp⟩) from fun h => by obtain ⟨⟨_, h2, h3, h4⟩, _⟩ := h; dsimp only at h2 h3 h4; omega)
            go_wp2
            go_ret
            exact ⟨ret_bool (by rw [HV.out]; exact (decide_eq_false fun h => absurd (HW.out.1 h.row).1 HNO.out).symm), K1.out⟩
          by_cases t6 : 12 ≤ vp
          · have HNO := Lib.hid (show ¬ (En.evOk ⟨1, vs, vg, vp⟩ ∧ z < En.place ⟨1, vs, vg, vp⟩) from fun h => by obtain ⟨⟨_, h2, h3, h4⟩, _⟩ := h; dsimp only at h2 h3 h4; omega)
            go_wp2
            go_ret
            exact ⟨ret_bool (by rw [HV.out]; exact (decide_eq_false fun h => absurd (HW.out.1 h.row).1 HNO.out).symm), K1.out⟩
          have HNX := Lib.hid (show En.Row (-1) e.evs ↔ En.Row (8 + vs) (e.evs.drop (k + 1)) from by rw [HW.out, HPL.out]; exact ⟨fun h => h.2, fun h => ⟨⟨⟨by first | exact .inl rfl | exact .inr rfl, by dsimp only; omega, by dsimp only; omega, by dsimp only; omega⟩, by (try dsimp only); omega⟩, h⟩⟩)
          go_wp2
          go_roundw
          case rel => exact ⟨k + 1, 1, vs, 8 + vs, by omega, by go_num, rfl, rfl, .inr ⟨rfl, by omega, rfl⟩, HNX.out, KX.out⟩
          case measure => simp [intOf]; omega
        · by_cases k2 : vk = 2
          · subst k2
            have HPL := Lib.hid (show En.place ⟨2, vs, vg, vp⟩ = vs from rfl)
            by_cases t1 : vs ≤ z
            · have HNO := Lib.hid (show ¬ (En.evOk ⟨2, vs, vg, vp⟩ ∧ z < En.place ⟨2, vs, vg, vp⟩) from fun h => by obtain ⟨⟨_, h2, _⟩, h5⟩ := h; rw [HPL.out] at h5; dsimp only at h2 h5; omega)
              go_wp2
              go_ret
              exact ⟨ret_bool (by rw [HV.out]; exact (decide_eq_false fun h => absurd (HW.out.1 h.row).1 HNO.out).symm), K1.out⟩
            by_cases t2 : 8 ≤ vs
            · have HNO := Lib.hid (show ¬ (En.evOk ⟨2, vs, vg, vp⟩ ∧ z < En.place ⟨2, vs, vg, vp⟩) from fun h => by obtain ⟨⟨_, h2, h3, h4⟩, _⟩ := h; dsimp only at h2 h3 h4; omega)
              go_wp2
              go_ret
              exact ⟨ret_bool (by rw [HV.out]; exact (decide_eq_false fun h => absurd (HW.out.1 h.row).1 HNO.out).symm), K1.out⟩
            by_cases t3 : vg < 1
            · have HNO := Lib.hid (show ¬ (En.evOk ⟨2, vs, vg, vp⟩ ∧ z < En.place ⟨2, vs, vg, vp⟩) from fun h => by obtain ⟨⟨_, h2, h3, h4⟩, _⟩ := h; dsimp only at h2 h3 h4; omega)
              go_wp2
              go_ret
              exact ⟨ret_bool (by rw [HV.out]; exact (decide_eq_false fun h => absurd (HW.out.1 h.row).1 HNO.out).symm), K1.out⟩
            by_cases t4 : 60000 < vg
            · have HNO := Lib.hid (show ¬ (En.evOk ⟨2, vs, vg, vp⟩ ∧ z < En.place ⟨2, vs, vg, vp⟩) from fun h => by obtain ⟨⟨_, h2, h3, h4⟩, _⟩ := h; dsimp only at h2 h3 h4; omega)
              go_wp2
              go_ret
              exact ⟨ret_bool (by rw [HV.out]; exact (decide_eq_false fun h => absurd (HW.out.1 h.row).1 HNO.out).symm), K1.out⟩
            by_cases t5 : vp < 0
            · have HNO := Lib.hid (show ¬ (En.evOk ⟨2, vs, vg, vp⟩ ∧ z < En.place ⟨2, vs, vg, vp⟩) from fun h => by obtain ⟨⟨_, h2, h3, h4⟩, _⟩ := h; dsimp only at h2 h3 h4; omega)
              go_wp2
              go_ret
              exact ⟨ret_bool (by rw [HV.out]; exact (decide_eq_false fun h => absurd (HW.out.1 h.row).1 HNO.out).symm), K1.out⟩
            by_cases t6 : 12 ≤ vp
            · have HNO := Lib.hid (show ¬ (En.evOk ⟨2, vs, vg, vp⟩ ∧ z < En.place ⟨2, vs, vg, vp⟩) from fun h => by obtain ⟨⟨_, h2, h3, h4⟩, _⟩ := h; dsimp only at h2 h3 h4; omega)
              go_wp2
              go_ret
              exact ⟨ret_bool (by rw [HV.out]; exact (decide_eq_false fun h => absurd (HW.out.1 h.row).1 HNO.out).symm), K1.out⟩
            have HNX := Lib.hid (show En.Row (-1) e.evs ↔ En.Row (vs) (e.evs.drop (k + 1)) from by rw [HW.out, HPL.out]; exact ⟨fun h => h.2, fun h => ⟨⟨⟨by first | exact .inl rfl | exact .inr rfl, by dsimp only; omega, by dsimp only; omega, by dsimp only; omega⟩, by (try dsimp only); omega⟩, h⟩⟩)
            go_wp2
            go_roundw
            case rel => exact ⟨k + 1, 2, vs, vs, by omega, by go_num, rfl, rfl, .inl ⟨rfl, by omega, rfl⟩, HNX.out, KX.out⟩
            case measure => simp [intOf]; omega
          · have b1 : (vk == 1) = false := by simpa using k1
            have b2 : (vk != 2) = true := by simpa using k2
            have HNO := Lib.hid (show ¬ (En.evOk ⟨vk, vs, vg, vp⟩ ∧ z < En.place ⟨vk, vs, vg, vp⟩) from fun h => by obtain ⟨⟨h1, _⟩, _⟩ := h; dsimp only at h1; omega)
            go_wp2
            go_ret
            exact ⟨ret_bool (by rw [HV.out]; exact (decide_eq_false fun h => absurd (HW.out.1 h.row).1 HNO.out).symm), K1.out⟩
      · by_cases k1 : vk = 1
        · subst k1
          have HPL := Lib.hid (show En.place ⟨1, vs, vg, vp⟩ = 8 + vs from rfl)
          by_cases t1 : vs ≤ sl
          · have HNO := Lib.hid (show ¬ (En.evOk ⟨1, vs, vg, vp⟩ ∧ 8 + sl < En.place ⟨1, vs, vg, vp⟩) from fun h => by obtain ⟨⟨_, h2, _⟩, h5⟩ := h; rw [HPL.out] at h5; dsimp only at h2 h5; omega)
            go_wp2
            go_ret
            exact ⟨ret_bool (by rw [HV.out]; exact (decide_eq_false fun h => absurd (HW.out.1 h.row).1 HNO.out).symm), K1.out⟩
          by_cases t2 : 8 ≤ vs
          · have HNO := Lib.hid (show ¬ (En.evOk ⟨1, vs, vg, vp⟩ ∧ 8 + sl < En.place ⟨1, vs, vg, vp⟩) from fun h => by obtain ⟨⟨_, h2, h3, h4⟩, _⟩ := h; dsimp only at h2 h3 h4; omega)
            go_wp2
            go_ret
            exact ⟨ret_bool (by rw [HV.out]; exact (decide_eq_false fun h => absurd (HW.out.1 h.row).1 HNO.out).symm), K1.out⟩
          by_cases t3 : vg < 1
          · have HNO := Lib.hid (show ¬ (En.evOk ⟨1, vs, vg, vp⟩ ∧ 8 + sl < En.place ⟨1, vs, vg, vp⟩) from fun h => by obtain ⟨⟨_, h2, h3, h4⟩, _⟩ := h; dsimp only at h2 h3 h4; omega)
            go_wp2
            go_ret
            exact ⟨ret_bool (by rw [HV.out]; exact (decide_eq_false fun h => absurd (HW.out.1 h.row).1 HNO.out).symm), K1.out⟩
          by_cases t4 : 60000 < vg
          · have HNO := Lib.hid (show ¬ (En.evOk ⟨1, vs, vg, vp⟩ ∧ 8 + sl < En.place ⟨1, vs, vg, vp⟩) from fun h => by obtain ⟨⟨_, h2, h3, h4⟩, _⟩ := h; dsimp only at h2 h3 h4; omega)
            go_wp2
            go_ret
            exact ⟨ret_bool (by rw [HV.out]; exact (decide_eq_false fun h => absurd (HW.out.1 h.row).1 HNO.out).symm), K1.out⟩
          by_cases t5 : vp < 0
          · have HNO := Lib.hid (show ¬ (En.evOk ⟨1, vs, vg, vp⟩ ∧ 8 + sl < En.place ⟨1, vs, vg, vp⟩) from fun h => by obtain ⟨⟨_, h2, h3, h4⟩, _⟩ := h; dsimp only at h2 h3 h4; omega)
            go_wp2
            go_ret
            exact ⟨ret_bool (by rw [HV.out]; exact (decide_eq_false fun h => absurd (HW.out.1 h.row).1 HNO.out).symm), K1.out⟩
          by_cases t6 : 12 ≤ vp
          · have HNO := Lib.hid (show ¬ (En.evOk ⟨1, vs, vg, vp⟩ ∧ 8 + sl < En.place ⟨1, vs, vg, vp⟩) from fun h => by obtain ⟨⟨_, h2, h3, h4⟩, _⟩ := h; dsimp only at h2 h3 h4; omega)
            go_wp2
            go_ret
            exact ⟨ret_bool (by rw [HV.out]; exact (decide_eq_false fun h => absurd (HW.out.1 h.row).1 HNO.out).symm), K1.out⟩
          have HNX := Lib.hid (show En.Row (-1) e.evs ↔ En.Row (8 + vs) (e.evs.drop (k + 1)) from by rw [HW.out, HPL.out]; exact ⟨fun h => h.2, fun h => ⟨⟨⟨by first | exact .inl rfl | exact .inr rfl, by dsimp only; omega, by dsimp only; omega, by dsimp only; omega⟩, by (try dsimp only); omega⟩, h⟩⟩)
          go_wp2
          go_roundw
          case rel => exact ⟨k + 1, 1, vs, 8 + vs, by omega, by go_num, rfl, rfl, .inr ⟨rfl, by omega, rfl⟩, HNX.out, KX.out⟩
          case measure => simp [intOf]; omega
        · have b1 : (vk == 1) = false := by simpa using k1
          have b2 : (vk != 1) = true := by simpa using k1
          have HNO := Lib.hid (show ¬ (En.evOk ⟨vk, vs, vg, vp⟩ ∧ 8 + sl < En.place ⟨vk, vs, vg, vp⟩) from fun h => by
            obtain ⟨⟨h1, h2, _⟩, h5⟩ := h
            dsimp only at h1 h2
            have : vk = 2 := by omega
            subst this
            rw [show En.place ⟨2, vs, vg, vp⟩ = vs from rfl] at h5
            omega)
          go_wp2
          go_ret
          exact ⟨ret_bool (by rw [HV.out]; exact (decide_eq_false fun h => absurd (HW.out.1 h.row).1 HNO.out).symm), K1.out⟩
    · have hk8 : ¬ (k : Int) < n := by omega
      obtain rfl : k = n := by omega
      have hd : e.evs.drop k = [] := List.drop_eq_nil_of_le (by have := HN.out; omega)
      rw [hd] at hrow
      have HW := Lib.hid (show En.Row (-1) e.evs from hrow.2 trivial)
      clear hrow hb hat c0 c1
      go_wp2
      go_loopw [7] (fun i wq => ∃ m : Nat, m ≤ 8 ∧ i = .int .i64 m ∧ Below wr.heap.size wr wq ∧ ∀ j, j < m → En.inOk (e.inp j)) (fun i _ => 8 - (intOf i).toNat)
      case atStart => exact ⟨0, by omega, rfl, Below.refl _ _, fun j hj => absurd hj (Nat.not_lt_zero j)⟩
      case round =>
        obtain ⟨m, hm, rfl, hb2, hall⟩ := hrel
        have KM := Lib.hid (KB.out.trans (hb2.mono KB.out.size))
        have PM := Lib.hid ((P0.out.below HB.out P0.out.lt).below hb2 (P0.out.below HB.out P0.out.lt).lt)
        clear p1
        by_cases hlt8 : m < 8
        · have hm8 : (m : Int) < 8 := by omega
          have e0 := (PM.out.cell (2 + m * 3)).trans (En.cells_in e _ m 0 hlt8 (by omega))
          have e1 := (PM.out.cell (2 + m * 3 + 1)).trans (En.cells_in e _ m 1 hlt8 (by omega))
          have e2 := (PM.out.cell (2 + m * 3 + 2)).trans (En.cells_in e _ m 2 hlt8 (by omega))
          have hok : En.inOk (e.inp m) ↔ (-127 ≤ (e.inp m).x ∧ -127 ≤ (e.inp m).y) := Iff.rfl
          have hti := hty m hlt8
          have HK := Lib.hid (show ∀ j, j < m + 1 → j = m ∨ j < m from fun j hj => by omega)
          obtain ⟨p, hp⟩ : ∃ p, p = e.inp m := ⟨_, rfl⟩
          rw [← hp] at e0 e1 e2 hok hti
          obtain ⟨x, y, b⟩ := p
          simp only [Gm.In.cells, List.getElem?_cons_zero, List.getElem?_cons_succ, Nat.add_zero] at e0 e1 e2
          dsimp only at hok
          obtain ⟨tx, ty, tb⟩ := hti
          dsimp only at tx ty tb
          have cs := fun X => Lib.hid (refmayin_any x y b X tx.1 ty.1)
          have HP := Lib.hid hp
          have HALL := Lib.hid hall
          have HB2 := Lib.hid hb2
          clear hp hall hb2
          by_cases hi : -127 ≤ x ∧ -127 ≤ y
          · rw [decide_eq_true hi] at cs
            have hnew := Lib.hid (show ∀ j, j < m + 1 → En.inOk (e.inp j) from fun j hj => by
              rcases HK.out j hj with rfl | h
              · rw [← HP.out]; exact hok.2 hi
              · exact HALL.out j h)
            clear hok hi
            go_wp2_with (go_at_call 62; ((with_reducible refine ((cs _).out).mono ?_); rintro r w2 ⟨rfl, hb⟩; have K2 := Lib.hid (HB2.out.trans (hb.mono HB2.out.size)); clear hb))
            go_roundw
            case rel => exact ⟨m + 1, by omega, by go_num, K2.out, hnew.out⟩
            case measure => simp [intOf]; omega
          · rw [decide_eq_false hi] at cs
            have hno := Lib.hid (show ¬ En.Ok e from fun h => hi (by have := h.ins m hlt8; rw [← HP.out] at this; exact this))
            clear hok hi
            go_wp2_with (go_at_call 62; ((with_reducible refine ((cs _).out).mono ?_); rintro r w2 ⟨rfl, hb⟩; have K2 := Lib.hid (KM.out.trans (hb.mono KM.out.size)); clear hb))
            go_ret
            exact ⟨ret_bool (by rw [HV.out]; exact (decide_eq_false hno.out).symm), K2.out⟩
        · have hm8 : ¬ (m : Int) < 8 := by omega
          obtain rfl : m = 8 := by omega
          have hyes := Lib.hid (show En.Ok e from ⟨HF.out, HW.out, hall⟩)
          clear hall hb2
          go_wp2
          go_ret
          exact ⟨ret_bool (by rw [HV.out]; exact (decide_eq_true hyes.out).symm), KM.out⟩
end Go.Proofs.YtkkhdaeihnbilaaGreat
namespace Go.Proofs.YtkkhdaeihnbilaaGreat
open Go.RowKit
set_option linter.unusedVariables false
set_option linter.unusedSimpArgs false

theorem ship_neq (s t : Gm.Ship) (w : World) : (binOp .neq 24 (.agg s.cells.toArray) (.agg t.cells.toArray)).run Tryz.prog w = .ok (.bool (!s.eqB t)) w := by
  simp only [binOp]
  simp [Op.equal, Op.maxDepth, ship_eq']

set_option maxRecDepth 100000 in
set_option maxHeartbeats 16000000 in
theorem refmay_any (g : Gm.G) (A : Option Addr) (n c : Nat) (w : World) (hty : Gm.ty g) (hn : n = g.shots.length) (hn63 : n ≤ maxLen) (hr : Lies w w.heap.size 6 A n (Gm.shotCells g.shots)) :
    Calls Tryz.prog 36 #[.agg (Gm.cells g (.slice A n c))] w fun e w' => (∃ v, e = .returned (.bool v) ∧ (v = true ↔ Gm.ok g)) ∧ Below w.heap.size w w' := by
  have hN : Hid (n = g.shots.length) := Lib.hid hn
  have n63 : (n : Int) ≤ 9223372036854775807 := by unfold maxLen at hn63; omega
  have hc : ∀ W : World, ∀ j, (W.alloc (.cells (Gm.cells g (.slice A n c)) 28)).cell? ⟨W.heap.size, j, none⟩ = (Gm.cells g (.slice A n c))[j]? := fun W j => (Box.made W _ _).cell j
  have h0 := Gm.cells_0 g (.slice A n c)
  have h58 := Gm.cells_58 g (.slice A n c)
  clear hn hn63
  by_cases hf : g.frame < 0
  · have d1 : decide (g.frame < 0) = true := decide_eq_true hf
    have hno := Lib.hid (show ¬ Gm.ok g from fun h => by have := h.1; omega)
    clear hr hf hty
    go_enter Tryz.func36, Tryz.ntmps36
    go_wp2
    go_ret
    exact ⟨by first | exact ⟨false, rfl, by simp; exact hno.out⟩ | exact .inl ⟨rfl, hno.out⟩, one_below _ _⟩
  have d1 : decide (g.frame < 0) = false := decide_eq_false hf
  by_cases hf2 : 1048576 < g.frame
  · have d2 : decide (1048576 < g.frame) = true := decide_eq_true hf2
    have hno := Lib.hid (show ¬ Gm.ok g from fun h => by have := h.2.1; omega)
    clear hr hf hf2 hty
    go_enter Tryz.func36, Tryz.ntmps36
    go_wp2
    go_ret
    exact ⟨by first | exact ⟨false, rfl, by simp; exact hno.out⟩ | exact .inl ⟨rfl, hno.out⟩, one_below _ _⟩
  have d2 : decide (1048576 < g.frame) = false := decide_eq_false hf2
  by_cases hf3 : 32 < (n : Int)
  · have d3 : decide (32 < (n : Int)) = true := decide_eq_true hf3
    have hno := Lib.hid (show ¬ Gm.ok g from fun h => by have := h.2.2.1; have := hN.out; omega)
    clear hr hf hf2 hf3 hty
    go_enter Tryz.func36, Tryz.ntmps36
    go_wp2
    go_ret
    exact ⟨by first | exact ⟨false, rfl, by simp; exact hno.out⟩ | exact .inl ⟨rfl, hno.out⟩, one_below _ _⟩
  have d3 : decide (32 < (n : Int)) = false := decide_eq_false hf3
  have HF := Lib.hid (show 0 ≤ g.frame ∧ g.frame ≤ 1048576 ∧ g.shots.length ≤ 32 from ⟨by omega, by omega, by have := hN.out; omega⟩)
  obtain ⟨_, _, hships, hshots⟩ := hty
  clear hf hf2 hf3
  go_enter Tryz.func36, Tryz.ntmps36
  go_wp2
  go_loopw [3] (fun i wr => ∃ k : Nat, k ≤ 8 ∧ i = .int .i64 k ∧ Box wr w.heap.size 28 (Gm.cells g (.slice A n c)) ∧ Below w.heap.size w wr ∧ ∀ j, j < k → Gm.okShip (g.ship j)) (fun i _ => 8 - (intOf i).toNat)
  case atStart => exact ⟨0, by omega, rfl, Box.made _ _ _, one_below _ _, fun j hj => absurd hj (Nat.not_lt_zero j)⟩
  case round =>
    obtain ⟨k, hk, rfl, hB, hb, hall⟩ := hrel
    have HALL := Lib.hid hall
    clear hall
    by_cases hlt : k < 8
    · have hcr := hB.cell
      have hlB := hB.lt
      have e0 := cells_at hcr hlt 0 (by omega)
      have e1 := cells_at hcr hlt 1 (by omega)
      have e2 := cells_at hcr hlt 2 (by omega)
      have e3 := cells_at hcr hlt 3 (by omega)
      have e4 := cells_at hcr hlt 4 (by omega)
      have e5 := cells_at hcr hlt 5 (by omega)
      have e6 := cells_at hcr hlt 6 (by omega)
      have ty := hships k hlt
      have HS := Lib.hid (show Gm.ok g → Gm.okShip (g.ship k) from fun h => h.2.2.2.1 k hlt)
      have HZ := Lib.hid (show Gm.okShip (g.ship k) → ∀ j, j < k + 1 → Gm.okShip (g.ship j) from fun h j hj => by
        by_cases e : j = k
        · rw [e]; exact h
        · exact HALL.out j (by omega))
      generalize g.ship k = s at e0 e1 e2 e3 e4 e5 e6 ty HS HZ
      obtain ⟨on, x, y, vx, vy, cool, score⟩ := s
      simp only [Gm.Ship.cells, List.getElem?_cons_zero, List.getElem?_cons_succ, Nat.add_zero] at e0 e1 e2 e3 e4 e5 e6
      obtain ⟨tx, ty, tvx, tvy, tc, ts⟩ := ty
      unfold Gm.i32 Gm.i64 at *
      dsimp only at tx ty tvx tvy tc ts
      have hk8 : (k : Int) < 8 := by omega
      have HB := Lib.hid hB
      have HBB := Lib.hid hb
      clear hc hcr hships hshots h0 h58 d1 d2 d3 hB hb
      cases on
      · by_cases hz : (⟨false, x, y, vx, vy, cool, score⟩ : Gm.Ship) = Gm.Ship.none
        · have ho := Lib.hid (HZ.out (by rw [hz]; refine ⟨.inr rfl, ?_, ?_, ?_, ?_, ?_, ?_, ?_, ?_⟩ <;> simp [Gm.Ship.none, Gm.inF, Gm.slow]))
          injection hz with z1 z2 z3 z4 z5 z6 z7
          subst z2 z3 z4 z5 z6 z7
          clear HS HZ tx ty tvx tvy tc ts
          go_wp2
          go_roundw
          case rel => exact ⟨k + 1, by omega, by go_num, HB.out.alloc _, HBB.out.alloc (Nat.le_of_lt hlB) _, ho.out⟩
          case measure => simp [intOf]; omega
        · have he := fun W => ship_neq ⟨false, x, y, vx, vy, cool, score⟩ Gm.Ship.none W
          rw [show (⟨false, x, y, vx, vy, cool, score⟩ : Gm.Ship).eqB Gm.Ship.none = false by
            cases hq : (⟨false, x, y, vx, vy, cool, score⟩ : Gm.Ship).eqB Gm.Ship.none
            · rfl
            · exact absurd (Gm.Ship.eqB_iff.1 hq) hz] at he
          simp only [Gm.Ship.cells, Gm.Ship.none, Bool.not_false] at he
          have hno := Lib.hid (show ¬ Gm.ok g from fun h => (HS.out h).1.elim (fun hh => absurd hh (by simp)) hz)
          clear HS HZ hz tx ty tvx tvy tc ts
          go_wp2
          go_ret
          exact ⟨by first | exact ⟨false, rfl, by simp; exact hno.out⟩ | exact .inl ⟨rfl, hno.out⟩, HBB.out.alloc (Nat.le_of_lt hlB) _⟩
      · skip
        have cx := fun X => Lib.hid (refin_any x tx X)
        have cy := fun X => Lib.hid (refin_any y ty X)
        have cvx := fun X => Lib.hid (refslow_any vx 524288 tvx (by omega) X)
        have cvy := fun X => Lib.hid (refslow_any vy 524288 tvy (by omega) X)
        obtain ⟨bx, hx⟩ : ∃ b, b = (decide (0 ≤ x) && decide (x < 16777216)) := ⟨_, rfl⟩
        obtain ⟨b_y, hy⟩ : ∃ b, b = (decide (0 ≤ y) && decide (y < 16777216)) := ⟨_, rfl⟩
        obtain ⟨bvx, hvx⟩ : ∃ b, b = (decide (-524288 ≤ vx) && decide (vx ≤ 524288)) := ⟨_, rfl⟩
        obtain ⟨bvy, hvy⟩ : ∃ b, b = (decide (-524288 ≤ vy) && decide (vy ≤ 524288)) := ⟨_, rfl⟩
        rw [← hx] at cx; rw [← hy] at cy; rw [← hvx] at cvx; rw [← hvy] at cvy
        have HX := Lib.hid (show bx = true ↔ Gm.inF x by rw [hx]; unfold Gm.inF; simp)
        have HY := Lib.hid (show b_y = true ↔ Gm.inF y by rw [hy]; unfold Gm.inF; simp)
        have HVX := Lib.hid (show bvx = true ↔ Gm.slow vx 524288 by rw [hvx]; unfold Gm.slow; simp)
        have HVY := Lib.hid (show bvy = true ↔ Gm.slow vy 524288 by rw [hvy]; unfold Gm.slow; simp)
        have HO := Lib.hid (show Gm.ok g → bx = true ∧ b_y = true ∧ bvx = true ∧ bvy = true ∧ 0 ≤ cool ∧ cool ≤ 10 ∧ 0 ≤ score ∧ score ≤ 1073741824 from fun h => by obtain ⟨_, h1, h2, h3, h4, h5, h6, h7, h8⟩ := HS.out h; exact ⟨HX.out.2 h1, HY.out.2 h2, HVX.out.2 h3, HVY.out.2 h4, h5, h6, h7, h8⟩)
        have HQ := Lib.hid (show (bx = true ∧ b_y = true ∧ bvx = true ∧ bvy = true ∧ 0 ≤ cool ∧ cool ≤ 10 ∧ 0 ≤ score ∧ score ≤ 1073741824) → ∀ j, j < k + 1 → Gm.okShip (g.ship j) from fun ⟨h1, h2, h3, h4, h5, h6, h7, h8⟩ => HZ.out ⟨.inl rfl, HX.out.1 h1, HY.out.1 h2, HVX.out.1 h3, HVY.out.1 h4, h5, h6, h7, h8⟩)
        clear hx hy hvx hvy HX HY HVX HVY HS HZ tx ty tvx tvy tc ts
        cases bx
        · have hno := Lib.hid (show ¬ Gm.ok g from fun h => by have := (HO.out h).1; simp at this)
          clear HO HQ
          go_wp2_with (first | (go_at_call 76; first | ((with_reducible refine ((cx _).out).mono ?_); rintro e v1 ⟨rfl, rfl⟩) | ((with_reducible refine ((cy _).out).mono ?_); rintro e v1 ⟨rfl, rfl⟩)) | (go_at_call 77; first | ((with_reducible refine ((cvx _).out).mono ?_); rintro e v1 ⟨rfl, rfl⟩) | ((with_reducible refine ((cvy _).out).mono ?_); rintro e v1 ⟨rfl, rfl⟩)))
          go_ret
          exact ⟨by first | exact ⟨false, rfl, by simp; exact hno.out⟩ | exact .inl ⟨rfl, hno.out⟩, HBB.out.alloc (Nat.le_of_lt hlB) _⟩
        cases b_y
        · have hno := Lib.hid (show ¬ Gm.ok g from fun h => by have := (HO.out h).2.1; simp at this)
          clear HO HQ
          go_wp2_with (first | (go_at_call 76; first | ((with_reducible refine ((cx _).out).mono ?_); rintro e v1 ⟨rfl, rfl⟩) | ((with_reducible refine ((cy _).out).mono ?_); rintro e v1 ⟨rfl, rfl⟩)) | (go_at_call 77; first | ((with_reducible refine ((cvx _).out).mono ?_); rintro e v1 ⟨rfl, rfl⟩) | ((with_reducible refine ((cvy _).out).mono ?_); rintro e v1 ⟨rfl, rfl⟩)))
          go_ret
          exact ⟨by first | exact ⟨false, rfl, by simp; exact hno.out⟩ | exact .inl ⟨rfl, hno.out⟩, HBB.out.alloc (Nat.le_of_lt hlB) _⟩
        cases bvx
        · have hno := Lib.hid (show ¬ Gm.ok g from fun h => by have := (HO.out h).2.2.1; simp at this)
          clear HO HQ
          go_wp2_with (first | (go_at_call 76; first | ((with_reducible refine ((cx _).out).mono ?_); rintro e v1 ⟨rfl, rfl⟩) | ((with_reducible refine ((cy _).out).mono ?_); rintro e v1 ⟨rfl, rfl⟩)) | (go_at_call 77; first | ((with_reducible refine ((cvx _).out).mono ?_); rintro e v1 ⟨rfl, rfl⟩) | ((with_reducible refine ((cvy _).out).mono ?_); rintro e v1 ⟨rfl, rfl⟩)))
          go_ret
          exact ⟨by first | exact ⟨false, rfl, by simp; exact hno.out⟩ | exact .inl ⟨rfl, hno.out⟩, HBB.out.alloc (Nat.le_of_lt hlB) _⟩
        cases bvy
        · have hno := Lib.hid (show ¬ Gm.ok g from fun h => by have := (HO.out h).2.2.2.1; simp at this)
          clear HO HQ
          go_wp2_with (first | (go_at_call 76; first | ((with_reducible refine ((cx _).out).mono ?_); rintro e v1 ⟨rfl, rfl⟩) | ((with_reducible refine ((cy _).out).mono ?_); rintro e v1 ⟨rfl, rfl⟩)) | (go_at_call 77; first | ((with_reducible refine ((cvx _).out).mono ?_); rintro e v1 ⟨rfl, rfl⟩) | ((with_reducible refine ((cvy _).out).mono ?_); rintro e v1 ⟨rfl, rfl⟩)))
          go_ret
          exact ⟨by first | exact ⟨false, rfl, by simp; exact hno.out⟩ | exact .inl ⟨rfl, hno.out⟩, HBB.out.alloc (Nat.le_of_lt hlB) _⟩
        by_cases q0 : cool < 0
        · have f0 : decide (cool < 0) = true := decide_eq_true q0
          have hno := Lib.hid (show ¬ Gm.ok g from fun h => by have := (HO.out h).2.2.2.2.1; omega)
          clear HO HQ q0
          go_wp2_with (first | (go_at_call 76; first | ((with_reducible refine ((cx _).out).mono ?_); rintro e v1 ⟨rfl, rfl⟩) | ((with_reducible refine ((cy _).out).mono ?_); rintro e v1 ⟨rfl, rfl⟩)) | (go_at_call 77; first | ((with_reducible refine ((cvx _).out).mono ?_); rintro e v1 ⟨rfl, rfl⟩) | ((with_reducible refine ((cvy _).out).mono ?_); rintro e v1 ⟨rfl, rfl⟩)))
          go_ret
          exact ⟨by first | exact ⟨false, rfl, by simp; exact hno.out⟩ | exact .inl ⟨rfl, hno.out⟩, HBB.out.alloc (Nat.le_of_lt hlB) _⟩
        have f0 : decide (cool < 0) = false := decide_eq_false q0
        by_cases q1 : 10 < cool
        · have f1 : decide (10 < cool) = true := decide_eq_true q1
          have hno := Lib.hid (show ¬ Gm.ok g from fun h => by have := (HO.out h).2.2.2.2.2.1; omega)
          clear HO HQ q0 q1
          go_wp2_with (first | (go_at_call 76; first | ((with_reducible refine ((cx _).out).mono ?_); rintro e v1 ⟨rfl, rfl⟩) | ((with_reducible refine ((cy _).out).mono ?_); rintro e v1 ⟨rfl, rfl⟩)) | (go_at_call 77; first | ((with_reducible refine ((cvx _).out).mono ?_); rintro e v1 ⟨rfl, rfl⟩) | ((with_reducible refine ((cvy _).out).mono ?_); rintro e v1 ⟨rfl, rfl⟩)))
          go_ret
          exact ⟨by first | exact ⟨false, rfl, by simp; exact hno.out⟩ | exact .inl ⟨rfl, hno.out⟩, HBB.out.alloc (Nat.le_of_lt hlB) _⟩
        have f1 : decide (10 < cool) = false := decide_eq_false q1
        by_cases q2 : score < 0
        · have f2 : decide (score < 0) = true := decide_eq_true q2
          have hno := Lib.hid (show ¬ Gm.ok g from fun h => by have := (HO.out h).2.2.2.2.2.2.1; omega)
          clear HO HQ q0 q1 q2
          go_wp2_with (first | (go_at_call 76; first | ((with_reducible refine ((cx _).out).mono ?_); rintro e v1 ⟨rfl, rfl⟩) | ((with_reducible refine ((cy _).out).mono ?_); rintro e v1 ⟨rfl, rfl⟩)) | (go_at_call 77; first | ((with_reducible refine ((cvx _).out).mono ?_); rintro e v1 ⟨rfl, rfl⟩) | ((with_reducible refine ((cvy _).out).mono ?_); rintro e v1 ⟨rfl, rfl⟩)))
          go_ret
          exact ⟨by first | exact ⟨false, rfl, by simp; exact hno.out⟩ | exact .inl ⟨rfl, hno.out⟩, HBB.out.alloc (Nat.le_of_lt hlB) _⟩
        have f2 : decide (score < 0) = false := decide_eq_false q2
        by_cases q3 : 1073741824 < score
        · have f3 : decide (1073741824 < score) = true := decide_eq_true q3
          have hno := Lib.hid (show ¬ Gm.ok g from fun h => by have := (HO.out h).2.2.2.2.2.2.2; omega)
          clear HO HQ q0 q1 q2 q3
          go_wp2_with (first | (go_at_call 76; first | ((with_reducible refine ((cx _).out).mono ?_); rintro e v1 ⟨rfl, rfl⟩) | ((with_reducible refine ((cy _).out).mono ?_); rintro e v1 ⟨rfl, rfl⟩)) | (go_at_call 77; first | ((with_reducible refine ((cvx _).out).mono ?_); rintro e v1 ⟨rfl, rfl⟩) | ((with_reducible refine ((cvy _).out).mono ?_); rintro e v1 ⟨rfl, rfl⟩)))
          go_ret
          exact ⟨by first | exact ⟨false, rfl, by simp; exact hno.out⟩ | exact .inl ⟨rfl, hno.out⟩, HBB.out.alloc (Nat.le_of_lt hlB) _⟩
        have f3 : decide (1073741824 < score) = false := decide_eq_false q3
        have ho := Lib.hid (HQ.out ⟨rfl, rfl, rfl, rfl, by omega, by omega, by omega, by omega⟩)
        clear HO HQ q0 q1 q2 q3
        go_wp2_with (first | (go_at_call 76; first | ((with_reducible refine ((cx _).out).mono ?_); rintro e v1 ⟨rfl, rfl⟩) | ((with_reducible refine ((cy _).out).mono ?_); rintro e v1 ⟨rfl, rfl⟩)) | (go_at_call 77; first | ((with_reducible refine ((cvx _).out).mono ?_); rintro e v1 ⟨rfl, rfl⟩) | ((with_reducible refine ((cvy _).out).mono ?_); rintro e v1 ⟨rfl, rfl⟩)))
        go_roundw
        case rel => exact ⟨k + 1, by omega, by go_num, HB.out.alloc _, HBB.out.alloc (Nat.le_of_lt hlB) _, ho.out⟩
        case measure => simp [intOf]; omega
    · have hk8 : ¬ (k : Int) < 8 := by omega
      have HA8 := Lib.hid (show ∀ j, j < 8 → Gm.okShip (g.ship j) from fun j hj => HALL.out j (by omega))
      have hcr := hB.cell
      have hlB := hB.lt
      clear hc hships h0 d1 d2 d3 HALL
      go_wp2
      go_loopw [5] (fun i wr => ∃ k : Nat, k ≤ n ∧ i = .int .i64 k ∧ Box wr w.heap.size 28 (Gm.cells g (.slice A n c)) ∧ Below w.heap.size w wr ∧ ∀ j (hj : j < g.shots.length), j < k → Gm.okShot (g.shots[j]'hj)) (fun i _ => n - (intOf i).toNat)
      case atStart => exact ⟨0, by omega, rfl, hB, hb, fun j _ hj => absurd hj (Nat.not_lt_zero j)⟩
      case round =>
        obtain ⟨m, hm, rfl, hB, hb, hall⟩ := hrel
        have HALL := Lib.hid hall
        clear hcr hlB hall
        have hcr := hB.cell
        have hlB := hB.lt
        by_cases hlt : m < n
        · have hml : m < g.shots.length := by have := hN.out; omega
          obtain ⟨ad, rfl, hbl, e0, e1, e2, e3, e4, e5⟩ := shots_at (hr.below hb) hN.out m hml
          have ty := hshots m hml
          have HS := Lib.hid (show Gm.ok g → Gm.okShot (g.shots[m]'hml) from fun h => h.2.2.2.2 m hml)
          have HZ := Lib.hid (show Gm.okShot (g.shots[m]'hml) → ∀ j (hj : j < g.shots.length), j < m + 1 → Gm.okShot (g.shots[j]'hj) from fun h j hjl hj => by
            by_cases e : j = m
            · subst e; exact h
            · exact HALL.out j hjl (by omega))
          generalize g.shots[m]'hml = s at e0 e1 e2 e3 e4 e5 ty HS HZ
          obtain ⟨owner, x, y, vx, vy, left⟩ := s
          dsimp only at e0 e1 e2 e3 e4 e5
          obtain ⟨to_, tx, ty, tvx, tvy, tl⟩ := ty
          unfold Gm.i32 Gm.i64 at *
          dsimp only at to_ tx ty tvx tvy tl
          have hmn : (m : Int) < n := by omega
          have HB := Lib.hid hB
          have HBB := Lib.hid hb
          clear hr hshots hb hB
          have cx := fun X => Lib.hid (refin_any x tx X)
          have cy := fun X => Lib.hid (refin_any y ty X)
          have cvx := fun X => Lib.hid (refslow_any vx 393216 tvx (by omega) X)
          have cvy := fun X => Lib.hid (refslow_any vy 393216 tvy (by omega) X)
          obtain ⟨bx, hx⟩ : ∃ b, b = (decide (0 ≤ x) && decide (x < 16777216)) := ⟨_, rfl⟩
          obtain ⟨b_y, hy⟩ : ∃ b, b = (decide (0 ≤ y) && decide (y < 16777216)) := ⟨_, rfl⟩
          obtain ⟨bvx, hvx⟩ : ∃ b, b = (decide (-393216 ≤ vx) && decide (vx ≤ 393216)) := ⟨_, rfl⟩
          obtain ⟨bvy, hvy⟩ : ∃ b, b = (decide (-393216 ≤ vy) && decide (vy ≤ 393216)) := ⟨_, rfl⟩
          rw [← hx] at cx; rw [← hy] at cy; rw [← hvx] at cvx; rw [← hvy] at cvy
          have HX := Lib.hid (show bx = true ↔ Gm.inF x by rw [hx]; unfold Gm.inF; simp)
          have HY := Lib.hid (show b_y = true ↔ Gm.inF y by rw [hy]; unfold Gm.inF; simp)
          have HVX := Lib.hid (show bvx = true ↔ Gm.slow vx 393216 by rw [hvx]; unfold Gm.slow; simp)
          have HVY := Lib.hid (show bvy = true ↔ Gm.slow vy 393216 by rw [hvy]; unfold Gm.slow; simp)
          have HO := Lib.hid (show Gm.ok g → bx = true ∧ b_y = true ∧ bvx = true ∧ bvy = true ∧ 0 ≤ owner ∧ owner < 8 ∧ 1 ≤ left ∧ left ≤ 24 from fun h => by obtain ⟨h5, h6, h1, h2, h3, h4, h7, h8⟩ := HS.out h; exact ⟨HX.out.2 h1, HY.out.2 h2, HVX.out.2 h3, HVY.out.2 h4, h5, h6, h7, h8⟩)
          have HQ := Lib.hid (show (bx = true ∧ b_y = true ∧ bvx = true ∧ bvy = true ∧ 0 ≤ owner ∧ owner < 8 ∧ 1 ≤ left ∧ left ≤ 24) → ∀ j (hj : j < g.shots.length), j < m + 1 → Gm.okShot (g.shots[j]'hj) from fun ⟨h1, h2, h3, h4, h5, h6, h7, h8⟩ => HZ.out ⟨h5, h6, HX.out.1 h1, HY.out.1 h2, HVX.out.1 h3, HVY.out.1 h4, h7, h8⟩)
          clear hx hy hvx hvy HX HY HVX HVY HS HZ tx ty tvx tvy to_ tl
          by_cases q0 : owner < 0
          · have f0 : decide (owner < 0) = true := decide_eq_true q0
            have hno := Lib.hid (show ¬ Gm.ok g from fun h => by have := (HO.out h).2.2.2.2.1; omega)
            clear HO HQ q0
            go_wp2_with (first | (go_at_call 76; first | ((with_reducible refine ((cx _).out).mono ?_); rintro e v1 ⟨rfl, rfl⟩) | ((with_reducible refine ((cy _).out).mono ?_); rintro e v1 ⟨rfl, rfl⟩)) | (go_at_call 77; first | ((with_reducible refine ((cvx _).out).mono ?_); rintro e v1 ⟨rfl, rfl⟩) | ((with_reducible refine ((cvy _).out).mono ?_); rintro e v1 ⟨rfl, rfl⟩)))
            go_ret
            exact ⟨by first | exact ⟨false, rfl, by simp; exact hno.out⟩ | exact .inl ⟨rfl, hno.out⟩, HBB.out.alloc (Nat.le_of_lt hlB) _⟩
          have f0 : decide (owner < 0) = false := decide_eq_false q0
          by_cases q1 : 8 ≤ owner
          · have f1 : decide (8 ≤ owner) = true := decide_eq_true q1
            have hno := Lib.hid (show ¬ Gm.ok g from fun h => by have := (HO.out h).2.2.2.2.2.1; omega)
            clear HO HQ q0 q1
            go_wp2_with (first | (go_at_call 76; first | ((with_reducible refine ((cx _).out).mono ?_); rintro e v1 ⟨rfl, rfl⟩) | ((with_reducible refine ((cy _).out).mono ?_); rintro e v1 ⟨rfl, rfl⟩)) | (go_at_call 77; first | ((with_reducible refine ((cvx _).out).mono ?_); rintro e v1 ⟨rfl, rfl⟩) | ((with_reducible refine ((cvy _).out).mono ?_); rintro e v1 ⟨rfl, rfl⟩)))
            go_ret
            exact ⟨by first | exact ⟨false, rfl, by simp; exact hno.out⟩ | exact .inl ⟨rfl, hno.out⟩, HBB.out.alloc (Nat.le_of_lt hlB) _⟩
          have f1 : decide (8 ≤ owner) = false := decide_eq_false q1
          cases bx
          · have hno := Lib.hid (show ¬ Gm.ok g from fun h => by have := (HO.out h).1; simp at this)
            clear HO HQ q0 q1
            go_wp2_with (first | (go_at_call 76; first | ((with_reducible refine ((cx _).out).mono ?_); rintro e v1 ⟨rfl, rfl⟩) | ((with_reducible refine ((cy _).out).mono ?_); rintro e v1 ⟨rfl, rfl⟩)) | (go_at_call 77; first | ((with_reducible refine ((cvx _).out).mono ?_); rintro e v1 ⟨rfl, rfl⟩) | ((with_reducible refine ((cvy _).out).mono ?_); rintro e v1 ⟨rfl, rfl⟩)))
            go_ret
            exact ⟨by first | exact ⟨false, rfl, by simp; exact hno.out⟩ | exact .inl ⟨rfl, hno.out⟩, HBB.out.alloc (Nat.le_of_lt hlB) _⟩
          cases b_y
          · have hno := Lib.hid (show ¬ Gm.ok g from fun h => by have := (HO.out h).2.1; simp at this)
            clear HO HQ q0 q1
            go_wp2_with (first | (go_at_call 76; first | ((with_reducible refine ((cx _).out).mono ?_); rintro e v1 ⟨rfl, rfl⟩) | ((with_reducible refine ((cy _).out).mono ?_); rintro e v1 ⟨rfl, rfl⟩)) | (go_at_call 77; first | ((with_reducible refine ((cvx _).out).mono ?_); rintro e v1 ⟨rfl, rfl⟩) | ((with_reducible refine ((cvy _).out).mono ?_); rintro e v1 ⟨rfl, rfl⟩)))
            go_ret
            exact ⟨by first | exact ⟨false, rfl, by simp; exact hno.out⟩ | exact .inl ⟨rfl, hno.out⟩, HBB.out.alloc (Nat.le_of_lt hlB) _⟩
          cases bvx
          · have hno := Lib.hid (show ¬ Gm.ok g from fun h => by have := (HO.out h).2.2.1; simp at this)
            clear HO HQ q0 q1
            go_wp2_with (first | (go_at_call 76; first | ((with_reducible refine ((cx _).out).mono ?_); rintro e v1 ⟨rfl, rfl⟩) | ((with_reducible refine ((cy _).out).mono ?_); rintro e v1 ⟨rfl, rfl⟩)) | (go_at_call 77; first | ((with_reducible refine ((cvx _).out).mono ?_); rintro e v1 ⟨rfl, rfl⟩) | ((with_reducible refine ((cvy _).out).mono ?_); rintro e v1 ⟨rfl, rfl⟩)))
            go_ret
            exact ⟨by first | exact ⟨false, rfl, by simp; exact hno.out⟩ | exact .inl ⟨rfl, hno.out⟩, HBB.out.alloc (Nat.le_of_lt hlB) _⟩
          cases bvy
          · have hno := Lib.hid (show ¬ Gm.ok g from fun h => by have := (HO.out h).2.2.2.1; simp at this)
            clear HO HQ q0 q1
            go_wp2_with (first | (go_at_call 76; first | ((with_reducible refine ((cx _).out).mono ?_); rintro e v1 ⟨rfl, rfl⟩) | ((with_reducible refine ((cy _).out).mono ?_); rintro e v1 ⟨rfl, rfl⟩)) | (go_at_call 77; first | ((with_reducible refine ((cvx _).out).mono ?_); rintro e v1 ⟨rfl, rfl⟩) | ((with_reducible refine ((cvy _).out).mono ?_); rintro e v1 ⟨rfl, rfl⟩)))
            go_ret
            exact ⟨by first | exact ⟨false, rfl, by simp; exact hno.out⟩ | exact .inl ⟨rfl, hno.out⟩, HBB.out.alloc (Nat.le_of_lt hlB) _⟩
          by_cases q2 : left < 1
          · have f2 : decide (left < 1) = true := decide_eq_true q2
            have hno := Lib.hid (show ¬ Gm.ok g from fun h => by have := (HO.out h).2.2.2.2.2.2.1; omega)
            clear HO HQ q0 q1 q2
            go_wp2_with (first | (go_at_call 76; first | ((with_reducible refine ((cx _).out).mono ?_); rintro e v1 ⟨rfl, rfl⟩) | ((with_reducible refine ((cy _).out).mono ?_); rintro e v1 ⟨rfl, rfl⟩)) | (go_at_call 77; first | ((with_reducible refine ((cvx _).out).mono ?_); rintro e v1 ⟨rfl, rfl⟩) | ((with_reducible refine ((cvy _).out).mono ?_); rintro e v1 ⟨rfl, rfl⟩)))
            go_ret
            exact ⟨by first | exact ⟨false, rfl, by simp; exact hno.out⟩ | exact .inl ⟨rfl, hno.out⟩, HBB.out.alloc (Nat.le_of_lt hlB) _⟩
          have f2 : decide (left < 1) = false := decide_eq_false q2
          by_cases q3 : 24 < left
          · have f3 : decide (24 < left) = true := decide_eq_true q3
            have hno := Lib.hid (show ¬ Gm.ok g from fun h => by have := (HO.out h).2.2.2.2.2.2.2; omega)
            clear HO HQ q0 q1 q2 q3
            go_wp2_with (first | (go_at_call 76; first | ((with_reducible refine ((cx _).out).mono ?_); rintro e v1 ⟨rfl, rfl⟩) | ((with_reducible refine ((cy _).out).mono ?_); rintro e v1 ⟨rfl, rfl⟩)) | (go_at_call 77; first | ((with_reducible refine ((cvx _).out).mono ?_); rintro e v1 ⟨rfl, rfl⟩) | ((with_reducible refine ((cvy _).out).mono ?_); rintro e v1 ⟨rfl, rfl⟩)))
            go_ret
            exact ⟨by first | exact ⟨false, rfl, by simp; exact hno.out⟩ | exact .inl ⟨rfl, hno.out⟩, HBB.out.alloc (Nat.le_of_lt hlB) _⟩
          have f3 : decide (24 < left) = false := decide_eq_false q3
          have ho := Lib.hid (HQ.out ⟨rfl, rfl, rfl, rfl, by omega, by omega, by omega, by omega⟩)
          clear HO HQ q0 q1 q2 q3
          go_wp2_with (first | (go_at_call 76; first | ((with_reducible refine ((cx _).out).mono ?_); rintro e v1 ⟨rfl, rfl⟩) | ((with_reducible refine ((cy _).out).mono ?_); rintro e v1 ⟨rfl, rfl⟩)) | (go_at_call 77; first | ((with_reducible refine ((cvx _).out).mono ?_); rintro e v1 ⟨rfl, rfl⟩) | ((with_reducible refine ((cvy _).out).mono ?_); rintro e v1 ⟨rfl, rfl⟩)))
          go_roundw
          case rel => exact ⟨m + 1, by omega, by go_num, HB.out.alloc _, HBB.out.alloc (Nat.le_of_lt hlB) _, ho.out⟩
          case measure => simp [intOf]; omega
        · have hmn : ¬ (m : Int) < n := by omega
          have hyes := Lib.hid (show Gm.ok g from ⟨HF.out.1, HF.out.2.1, HF.out.2.2, HA8.out, fun j hj => HALL.out j hj (by have := hN.out; omega)⟩)
          have HBB := Lib.hid hb
          clear hr hshots hb hB HALL
          go_wp2
          go_ret
          exact ⟨by first | exact ⟨true, rfl, by simp; exact hyes.out⟩ | exact .inr ⟨rfl, hyes.out⟩, HBB.out⟩
end Go.Proofs.YtkkhdaeihnbilaaGreat
namespace Go.Proofs.YtkkhdaeihnbilaaGreat
open Go.RowKit Go.Shelf
set_option linter.unusedVariables false
set_option linter.unusedSimpArgs false

set_option maxRecDepth 100000 in
set_option maxHeartbeats 4000000 in
theorem refstate_any (g : Gm.G) (r : Ros.R) (A : Option Addr) (n c : Nat) (w : World) (hty : Gm.ty g) (hn : n = g.shots.length) (hn63 : n ≤ maxLen) (hr : Lies w w.heap.size 6 A n (Gm.shotCells g.shots)) :
    Calls Tryz.prog 15 #[.agg (Im.cells g (.slice A n c) r)] w fun e w' => (∃ v, e = .returned (.bool v) ∧ (v = true ↔ Im.Ok g r)) ∧ Below w.heap.size w w' := by
  have P0 := Lib.hid (Box.made w 35 (Im.cells g (.slice A n c) r))
  have K0 := Lib.hid (one_below w (.cells (Im.cells g (.slice A n c) r) 35))
  have HQ := Lib.hid ((hr.below K0.out).wider K0.out.size)
  have cg := fun X hX => Lib.hid (refmay_any g A n c X hty hn hn63 hX)
  have cr := fun X => Lib.hid (refros_may r X)
  clear hr hn hty hn63
  by_cases hg : Gm.ok g
  · have HG := Lib.hid hg
    by_cases hok : Ros.Ok r
    · have HR := Lib.hid hok
      clear hg hok
      go_enter Tryz.func15, Tryz.ntmps15
      go_wp2_with (first | ((with_reducible refine im_load_game rfl rfl ?_); apply LoadIm.mk rfl; (focus (with_reducible exact P0.out)); dsimp only) | ((with_reducible refine im_load_ros_g ?_ rfl ?_); (focus first | rfl | kernel_rfl | simp [Region.wanted, yielded]); apply LoadIm.mk rfl; (focus (with_reducible exact P1.out)); dsimp only) | (go_at_call 36; ((with_reducible refine ((cg _ HQ.out).out).mono ?_); rintro e w1 ⟨⟨v1, rfl, hv1⟩, hb⟩; obtain rfl : v1 = true := hv1.2 HG.out; have P1 := Lib.hid (P0.out.below hb P0.out.lt); have K1 := Lib.hid (K0.out.trans (hb.mono K0.out.size)); clear hb hv1)) | (go_at_call 37; ((with_reducible refine ((cr _).out).mono ?_); rintro e w2 ⟨⟨v2, rfl, hv2⟩, hb⟩; obtain rfl : v2 = true := hv2.2 HR.out; have P2 := Lib.hid (P1.out.below hb P1.out.lt); have K2 := Lib.hid (K1.out.trans (hb.mono K1.out.size)); clear hb hv2)))
      go_loopw [3] (fun i wr => ∃ k : Nat, k ≤ 8 ∧ i = .int .i64 k ∧ Box wr w.heap.size 35 (Im.cells g (.slice A n c) r) ∧ Below w.heap.size w wr ∧ ∀ j, j < k → (g.ship j).on = decide (0 ≤ r.peer j)) (fun i _ => 8 - (intOf i).toNat)
      case atStart => exact ⟨0, by omega, rfl, P2.out, K2.out, fun j hj => absurd hj (Nat.not_lt_zero j)⟩
      case round =>
        obtain ⟨k, hk, rfl, hB, hb, hall⟩ := hrel
        clear P0 K0 P1 K1 P2 K2 HQ cg cr
        by_cases hlt : k < 8
        · have hk8 : (k : Int) < 8 := by omega
          have e0 : wr.cell? ⟨w.heap.size, 2 + k * 7, none⟩ = some (.bool (g.ship k).on) := (hB.cell _).trans ((Im.cells_ship g _ r k 0 hlt (by omega)).trans rfl)
          have e1 : wr.cell? ⟨w.heap.size, 60 + k * 2, none⟩ = some (.int .i64 (r.peer k)) := (hB.cell _).trans (by
            have := Im.cells_r g (.slice A n c) r (1 + k * 2)
            rw [show 60 + k * 2 = 59 + (1 + k * 2) by omega]
            exact this.trans (Ros.cells_peer r k hlt))
          obtain ⟨on, hon⟩ : ∃ on, on = (g.ship k).on := ⟨_, rfl⟩
          obtain ⟨pk, hpk⟩ : ∃ pk, pk = r.peer k := ⟨_, rfl⟩
          rw [← hon] at e0
          rw [← hpk] at e1
          have HON := Lib.hid hon
          have HPK := Lib.hid hpk
          have HALL := Lib.hid hall
          have HB := Lib.hid hB
          have HBB := Lib.hid hb
          clear hon hpk hall hB hb
          by_cases hm : on = decide (0 ≤ pk)
          · have hnew := Lib.hid (show ∀ j, j < k + 1 → (g.ship j).on = decide (0 ≤ r.peer j) from fun j hj => by
              by_cases e : j = k
              · rw [e, ← HON.out, ← HPK.out]; exact hm
              · exact HALL.out j (by omega))
            cases hd : decide (0 ≤ pk)
            · rw [hd] at hm
              subst hm
              go_upto_region 6 with fail
              go_quiet (fail)
              go_wp2
              go_roundw
              case rel => exact ⟨k + 1, by omega, by go_num, HB.out.draws _, draws_below HBB.out _, hnew.out⟩
              case measure => simp [intOf]; omega
            · rw [hd] at hm
              subst hm
              go_upto_region 6 with fail
              go_quiet (fail)
              go_wp2
              go_roundw
              case rel => exact ⟨k + 1, by omega, by go_num, HB.out.draws _, draws_below HBB.out _, hnew.out⟩
              case measure => simp [intOf]; omega
          · have hno := Lib.hid (show ¬ Im.Ok g r from fun h => hm (by rw [HON.out, HPK.out]; exact h.2.2 k hlt))
            cases hd : decide (0 ≤ pk)
            · obtain rfl : on = true := by
                cases on
                · exact absurd hd.symm hm
                · rfl
              clear hm
              go_upto_region 6 with fail
              go_quiet (fail)
              go_wp2
              go_ret
              exact ⟨by first | exact ⟨false, rfl, by simp; exact hno.out⟩ | exact .inl ⟨rfl, hno.out⟩, draws_below HBB.out _⟩
            · obtain rfl : on = false := by
                cases on
                · rfl
                · exact absurd hd.symm hm
              clear hm
              go_upto_region 6 with fail
              go_quiet (fail)
              go_wp2
              go_ret
              exact ⟨by first | exact ⟨false, rfl, by simp; exact hno.out⟩ | exact .inl ⟨rfl, hno.out⟩, draws_below HBB.out _⟩
        · have hk8 : ¬ (k : Int) < 8 := by omega
          have hyes := Lib.hid (show Im.Ok g r from ⟨HG.out, HR.out, fun j hj => hall j (by omega)⟩)
          have HBB := Lib.hid hb
          clear hall hB hb
          go_wp2
          go_ret
          exact ⟨by first | exact ⟨true, rfl, by simp; exact hyes.out⟩ | exact .inr ⟨rfl, hyes.out⟩, HBB.out⟩
    · have HR := Lib.hid hok
      have hno := Lib.hid (show ¬ Im.Ok g r from fun h => hok h.2.1)
      clear hg hok
      go_enter Tryz.func15, Tryz.ntmps15
      go_wp2_with (first | ((with_reducible refine im_load_game rfl rfl ?_); apply LoadIm.mk rfl; (focus (with_reducible exact P0.out)); dsimp only) | ((with_reducible refine im_load_ros_g ?_ rfl ?_); (focus first | rfl | kernel_rfl | simp [Region.wanted, yielded]); apply LoadIm.mk rfl; (focus (with_reducible exact P1.out)); dsimp only) | (go_at_call 36; ((with_reducible refine ((cg _ HQ.out).out).mono ?_); rintro e w1 ⟨⟨v1, rfl, hv1⟩, hb⟩; obtain rfl : v1 = true := hv1.2 HG.out; have P1 := Lib.hid (P0.out.below hb P0.out.lt); have K1 := Lib.hid (K0.out.trans (hb.mono K0.out.size)); clear hb hv1)) | (go_at_call 37; ((with_reducible refine ((cr _).out).mono ?_); rintro e w2 ⟨⟨v2, rfl, hv2⟩, hb⟩; obtain rfl : v2 = false := (by cases v2 <;> first | rfl | exact absurd (hv2.1 rfl) HR.out); have P2 := Lib.hid (P1.out.below hb P1.out.lt); have K2 := Lib.hid (K1.out.trans (hb.mono K1.out.size)); clear hb hv2)))
      go_ret
      exact ⟨by first | exact ⟨false, rfl, by simp; exact hno.out⟩ | exact .inl ⟨rfl, hno.out⟩, K2.out⟩
  · have HG := Lib.hid hg
    have hno := Lib.hid (show ¬ Im.Ok g r from fun h => hg h.1)
    have HR := Lib.hid True.intro
    clear hg
    go_enter Tryz.func15, Tryz.ntmps15
    go_wp2_with (first | ((with_reducible refine im_load_game rfl rfl ?_); apply LoadIm.mk rfl; (focus (with_reducible exact P0.out)); dsimp only) | ((with_reducible refine im_load_ros_g ?_ rfl ?_); (focus first | rfl | kernel_rfl | simp [Region.wanted, yielded]); apply LoadIm.mk rfl; (focus (with_reducible exact P1.out)); dsimp only) | (go_at_call 36; ((with_reducible refine ((cg _ HQ.out).out).mono ?_); rintro e w1 ⟨⟨v1, rfl, hv1⟩, hb⟩; obtain rfl : v1 = false := (by cases v1 <;> first | rfl | exact absurd (hv1.1 rfl) HG.out); have P1 := Lib.hid (P0.out.below hb P0.out.lt); have K1 := Lib.hid (K0.out.trans (hb.mono K0.out.size)); clear hb hv1)) | (go_at_call 37; ((with_reducible refine ((cr _).out).mono ?_); rintro e w2 ⟨⟨v2, rfl, hv2⟩, hb⟩; obtain rfl : v2 = false := (by cases v2 <;> first | rfl | exact absurd (hv2.1 rfl) HR.out); have P2 := Lib.hid (P1.out.below hb P1.out.lt); have K2 := Lib.hid (K1.out.trans (hb.mono K1.out.size)); clear hb hv2)))
    go_ret
    exact ⟨by first | exact ⟨false, rfl, by simp; exact hno.out⟩ | exact .inl ⟨rfl, hno.out⟩, K1.out⟩

end Go.Proofs.YtkkhdaeihnbilaaGreat
namespace Go.Proofs.YtkkhdaeihnbilaaGreat
open Go.RowKit
set_option linter.unusedVariables false

def stateTags : List Nat := gameTags ++ List.replicate 17 1
theorem state_tags (g : Gm.G) (A : Option Addr) (n c : Nat) (r : Ros.R) (o : Nat) : ((Im.cells g (.slice A n c) r)[o]?).map tagV = stateTags[o]? := by
  rw [show (Im.cells g (.slice A n c) r)[o]? = ((([Value.int .i64 g.frame, Value.int .u64 g.dice] ++ Gm.shipCells g.ship ++ [Value.slice A n c]) ++ (Value.int .i64 r.version :: Ros.seatCells r))[o]?) from by unfold Im.cells Gm.cells Ros.cells; simp]
  rw [← List.getElem?_map]
  rfl
theorem no_shot_in_state : ∀ o, o < 76 → ¬ (stateTags[o]? = some 1 ∧ stateTags[o + 1]? = some 2) := by decide
theorem Lies.off_state {w : World} {B BG n m : Nat} {A A' : Option Addr} {c : Nat} {l : List Gm.Shot} {g : Gm.G} {r : Ros.R} (h : Lies w B 6 A n (Gm.shotCells l)) (hn : n = l.length) (hB : Box w BG 35 (Im.cells g (.slice A' m c) r)) (h0 : n ≠ 0) (ad : Addr) (e : A = some ad) : ad.block ≠ BG := by
  intro eb
  subst hn
  have hlt : 0 < l.length := by omega
  have hc := h.cell ad e h0
  have e0 := hc 0 (.int .i64 l[0].owner) (by have := Gm.shotCells_at l 0 0 hlt (by omega); simpa [Gm.Shot.cells] using this)
  have e1 := hc 1 (.int .i32 l[0].x) (by have := Gm.shotCells_at l 0 1 hlt (by omega); simpa [Gm.Shot.cells] using this)
  rw [show ad.add 0 = ad from rfl] at e0
  rw [show ad.add 1 = ⟨ad.block, ad.off + 1, none⟩ from rfl] at e1
  rw [eb, hB.cell] at e1
  have e0' : (Im.cells g (.slice A' m c) r)[ad.off]? = some (.int .i64 l[0].owner) := by
    unfold World.cell? at e0
    rw [eb, hB.is] at e0
    dsimp only at e0
    split at e0
    · cases e0
    · exact e0
  have t0 := state_tags g A' m c r ad.off
  have t1 := state_tags g A' m c r (ad.off + 1)
  rw [e0'] at t0
  rw [e1] at t1
  have hlt' : ad.off < 76 := by have := (Array.getElem?_eq_some_iff.1 e0').1; rwa [Im.cells_size] at this
  exact no_shot_in_state _ hlt' ⟨t0.symm, t1.symm⟩
/-- A state's block is stored: the shots stay. -/
theorem Lies.state_row {w : World} {n BG m : Nat} {A A' : Option Addr} {c : Nat} {l : List Gm.Shot} {g : Gm.G} {r : Ros.R} (h : Lies w w.heap.size 6 A n (Gm.shotCells l)) (hn : n = l.length) (hB : Box w BG 35 (Im.cells g (.slice A' m c) r)) (cs : Array Value) : Lies (w.setRow BG cs) (w.setRow BG cs).heap.size 6 A n (Gm.shotCells l) := by
  refine ⟨h.len, fun hn => by obtain ⟨ad, e, hb⟩ := h.start hn; exact ⟨ad, e, by rw [setRow_size]; exact hb⟩, fun ad e h0 j u hu => ?_⟩
  have hne := h.off_state hn hB h0 ad e
  rw [World.cell?_of_block (w := w) (by rw [add_block]; exact setRow_other w BG _ cs hne)]
  exact h.cell ad e h0 j u hu
/-- The shots' list lies somewhere that the world holds: a block of another type that is stored leaves it. -/
theorem Lies.zero_row {w : World} {n BG : Nat} {A : Option Addr} {l : List Gm.Shot} (h : Lies w w.heap.size 6 A n (Gm.shotCells l)) (hn : n = l.length) (hB : Box w BG 35 Im.zero) (cs : Array Value) : Lies (w.setRow BG cs) (w.setRow BG cs).heap.size 6 A n (Gm.shotCells l) :=
  h.state_row hn hB cs
/-- A row of cells that lies somewhere, in no fresh block. -/
theorem Lies.old_row {w0 w : World} {n B size : Nat} {A : Option Addr} {xs : List Value} (h : Lies w w0.heap.size size A n xs) (hB : w0.heap.size ≤ B) (cs : Array Value) : Lies (w.setRow B cs) w0.heap.size size A n xs :=
  h.stays fun b hb => setRow_other w B b cs (by omega)
end Go.Proofs.YtkkhdaeihnbilaaGreat
namespace Go.Proofs.YtkkhdaeihnbilaaGreat
open Go.RowKit Go.Shelf
set_option linter.unusedVariables false
set_option linter.unusedSimpArgs false


/-- What lies there while an event is done: the state, the event, the answer's room. -/
structure Ch (w : World) (g : Gm.G) (s : Value) (r : Ros.R) (E : Array Value) (W : World) : Prop where
  st : Box W w.heap.size 35 (Im.cells g s r)
  ev : Box W (w.heap.size + 1) 61 E
  out : Box W (w.heap.size + 1 + 1) 35 Im.zero
  below : Below w.heap.size w W
theorem Ch.call {w W W' : World} {g : Gm.G} {s : Value} {r : Ros.R} {E : Array Value} (h : Ch w g s r E W) (hb : Below W.heap.size W W') : Ch w g s r E W' :=
  ⟨h.st.below hb h.st.lt, h.ev.below hb h.ev.lt, h.out.below hb h.out.lt, h.below.trans (hb.mono h.below.size)⟩
theorem Ch.alloc {w W : World} {g : Gm.G} {s : Value} {r : Ros.R} {E : Array Value} (h : Ch w g s r E W) (o : Obj) : Ch w g s r E (W.alloc o) := h.call (one_below W o)
theorem Ch.store {w W : World} {g g' : Gm.G} {s s' : Value} {r r' : Ros.R} {E : Array Value} (h : Ch w g s r E W) : Ch w g' s' r' E (W.setRow w.heap.size (Im.cells g' s' r')) :=
  ⟨h.st.row _, h.ev.row_far (by omega) _, h.out.row_far (by omega) _, Below.setRow' h.below (Nat.le_refl _) _⟩
theorem ch_start (w : World) (g : Gm.G) (s : Value) (r : Ros.R) (E : Array Value) : Ch w g s r E (((w.alloc (.cells (Im.cells g s r) 35)).alloc (.cells E 61)).alloc (.cells Im.zero 35)) :=
  ⟨((Box.made w 35 (Im.cells g s r)).alloc (.cells E 61)).alloc (.cells Im.zero 35), (Box.made_at (n := w.heap.size + 1) (w.alloc (.cells (Im.cells g s r) 35)) 61 E (by simp)).alloc (.cells Im.zero 35), Box.made_at _ _ _ (by simp),
    (two_below' w (.cells (Im.cells g s r) 35) (.cells E 61)).alloc (by simp <;> omega) (.cells Im.zero 35)⟩

set_option maxRecDepth 100000 in
set_option maxHeartbeats 2000000 in
theorem change_join (g : Gm.G) (r : Ros.R) (k : Nat) (gn pe : Int) (A : Option Addr) (n c : Nat) (w : World) (hok : Im.Ok g r) (hd : 0 ≤ g.dice ∧ g.dice ≤ 18446744073709551615) (hk : k < 8) (hn : n = g.shots.length) (hr : Lies w w.heap.size 6 A n (Gm.shotCells g.shots)) (ht : Ros.MayTake r k pe) (hg : gn = r.gen k + 1) :
    Calls Tryz.prog 59 #[.agg (Im.cells g (.slice A n c) r), .agg #[.int .i64 1, .int .i64 (k : Int), .int .i64 gn, .int .i64 pe]] w (SOne (Gm.spawn g k) (Ros.take r k pe) w) := by
  have hpk : r.peer k = -1 := ht.2.1
  have hoff : (g.ship k).on = false := (hok.2.2 k hk).trans (decide_eq_false (by omega))
  have ca := fun X => Lib.hid (rosapply_join_yes r k gn pe X ht hg)
  have cs := fun X hX => Lib.hid (spawn_yes g A n c k X hok.1 hd hn hX hk hoff)
  have cn := fun X => Lib.hid (need_ok X)
  clear hok hd ht hg hpk hoff
  have C0 := Lib.hid (ch_start w g (.slice A n c) r #[.int .i64 1, .int .i64 (k : Int), .int .i64 gn, .int .i64 pe])
  have L0 := Lib.hid (hr.below C0.out.below)
  have hN := Lib.hid hn
  clear hr hn
  go_enter Tryz.func59, Tryz.ntmps59
  go_upto_region 4 with (first | (with_reducible refine alloc_state rfl rfl ?_) | ((with_reducible refine im_load_ros rfl rfl ?_); apply LoadIm.mk rfl; (focus (with_reducible exact C0.out.st)); dsimp only) | ((with_reducible refine row_load rfl rfl Tryz.underlying61 rfl ?_); apply LoadRow.mk rfl; (focus (with_reducible exact C0.out.ev)); (focus (exact ev4_size))) | (go_at_call 23; ((with_reducible refine ((ca _).out).mono ?_); rintro e w1 ⟨rfl, hb⟩; have C1 := Lib.hid ((C0.out.call hb).alloc (.cells (Ros.cells (Ros.take r k pe)) 33)); have Q1 := Lib.hid (Box.made w1 33 (Ros.cells (Ros.take r k pe))); have L1 := Lib.hid ((L0.out.below (hb.mono C0.out.below.size)).below ((one_below w1 (.cells (Ros.cells (Ros.take r k pe)) 33)).mono (Nat.le_trans C0.out.below.size hb.size))); clear hb)) | (with_reducible refine ros_alloc rfl rfl ?_) | ((with_reducible refine ros_store_new rfl rfl rfl rfl rfl ?_)) | (go_at_call 61; ((with_reducible refine ((cn _).out).mono ?_); rintro e w2 ⟨rfl, hb⟩; have C2 := Lib.hid (C1.out.call hb); have Q2 := Lib.hid (Q1.out.below hb Q1.out.lt); have L2 := Lib.hid (L1.out.below (hb.mono C1.out.below.size)); have C3 := Lib.hid (C2.out.store (g' := g) (s' := .slice A n c) (r' := Ros.take r k pe)); have L3 := Lib.hid (L2.out.old_row (Nat.le_refl _) (Im.cells g (.slice A n c) (Ros.take r k pe))); have LL := Lib.hid (L3.out.wider C3.out.below.size); have k3 := C3.out.ev.cell; clear hb)) | ((with_reducible refine ros_load rfl rfl ?_); apply LoadRow.mk rfl; (focus (with_reducible exact Q2.out)); (focus (exact ros_info))) | ((with_reducible refine im_store_ros rfl rfl ?_); apply StoreR.mk rfl rfl; (focus (with_reducible exact C2.out.st))))
  go_wp2_with (first | ((with_reducible refine im_load_game rfl rfl ?_); apply LoadIm.mk rfl; (focus (with_reducible exact C3.out.st)); dsimp only) | (go_at_call 96; ((with_reducible refine ((cs _ LL.out).out).mono ?_); rintro e w4 ⟨A4, c4, rfl, hL, hb⟩; have C4 := Lib.hid (C3.out.call hb); have C5 := Lib.hid (C4.out.store (g' := Gm.spawn g k) (s' := .slice A4 (Gm.spawn g k).shots.length c4) (r' := Ros.take r k pe)); have L5 := Lib.hid (hL.state_row rfl C4.out.st (Im.cells (Gm.spawn g k) (.slice A4 (Gm.spawn g k).shots.length c4) (Ros.take r k pe))); clear hb hL)) | ((with_reducible refine im_store_game rfl rfl ?_); apply StoreG.mk rfl rfl; (focus (with_reducible exact C4.out.st)); (focus rfl)) | (go_at_call 61; ((with_reducible refine ((cn _).out).mono ?_); rintro e w6 ⟨rfl, hb⟩; have C6 := Lib.hid (C5.out.call hb); have L6 := Lib.hid (L5.out.call hb); clear hb)) | ((with_reducible refine im_load_state rfl rfl ?_); apply LoadIm.mk rfl; (focus (with_reducible exact C6.out.st)); dsimp only) | ((with_reducible refine im_store_state rfl rfl ?_); apply StoreS.mk rfl rfl; (focus (with_reducible exact C6.out.out)); (focus (exact Im.zero_size)); (focus rfl)))
  refine bodyPost_ret (v := .agg (Im.cells (Gm.spawn g k) (.slice A4 (Gm.spawn g k).shots.length c4) (Ros.take r k pe))) ?_ ?_ ?_
  · exact results_cell_row rfl _ _ _ _ (Im.cells (Gm.spawn g k) (.slice A4 (Gm.spawn g k).shots.length c4) (Ros.take r k pe)) (0, 0) _ rfl (C6.out.out.row _).is Tryz.underlying35 rfl (by rw [Im.cells_size]; exact state_info)
  · rfl
  · exact ⟨A4, c4, rfl, L6.out.zero_row rfl C6.out.out _, Below.setRow' C6.out.below (by omega) _⟩
set_option maxRecDepth 100000 in
set_option maxHeartbeats 2000000 in
theorem change_leave (g : Gm.G) (r : Ros.R) (k : Nat) (gn pe : Int) (A : Option Addr) (n c : Nat) (w : World) (hok : Im.Ok g r) (hd : 0 ≤ g.dice ∧ g.dice ≤ 18446744073709551615) (hk : k < 8) (hn : n = g.shots.length) (hr : Lies w w.heap.size 6 A n (Gm.shotCells g.shots)) (ht : Ros.MayGive r k) (hp : r.peer k = pe) (hg : r.gen k = gn) :
    Calls Tryz.prog 59 #[.agg (Im.cells g (.slice A n c) r), .agg #[.int .i64 2, .int .i64 (k : Int), .int .i64 gn, .int .i64 pe]] w (SOne (Gm.remove g k) (Ros.give r k) w) := by
  have hpk : 0 ≤ r.peer k := by
    rcases (hok.2.1.seat k hk).2 with h | h
    · exact absurd h (by simpa using ht.2)
    · exact h.1.1
  have hon : (g.ship k).on = true := (hok.2.2 k hk).trans (decide_eq_true hpk)
  have ca := fun X => Lib.hid (rosapply_leave_yes r k X ht gn pe hp hg)
  have cs := fun X hX => Lib.hid (remove_all g A n c k X hok.1 hn hX hk hon)
  have cn := fun X => Lib.hid (need_ok X)
  clear hok hd ht hg hpk hon hp
  have C0 := Lib.hid (ch_start w g (.slice A n c) r #[.int .i64 2, .int .i64 (k : Int), .int .i64 gn, .int .i64 pe])
  have L0 := Lib.hid (hr.below C0.out.below)
  have hN := Lib.hid hn
  clear hr hn
  go_enter Tryz.func59, Tryz.ntmps59
  go_upto_region 4 with (first | (with_reducible refine alloc_state rfl rfl ?_) | ((with_reducible refine im_load_ros rfl rfl ?_); apply LoadIm.mk rfl; (focus (with_reducible exact C0.out.st)); dsimp only) | ((with_reducible refine row_load rfl rfl Tryz.underlying61 rfl ?_); apply LoadRow.mk rfl; (focus (with_reducible exact C0.out.ev)); (focus (exact ev4_size))) | (go_at_call 23; ((with_reducible refine ((ca _).out).mono ?_); rintro e w1 ⟨rfl, hb⟩; have C1 := Lib.hid ((C0.out.call hb).alloc (.cells (Ros.cells (Ros.give r k)) 33)); have Q1 := Lib.hid (Box.made w1 33 (Ros.cells (Ros.give r k))); have L1 := Lib.hid ((L0.out.below (hb.mono C0.out.below.size)).below ((one_below w1 (.cells (Ros.cells (Ros.give r k)) 33)).mono (Nat.le_trans C0.out.below.size hb.size))); clear hb)) | (with_reducible refine ros_alloc rfl rfl ?_) | ((with_reducible refine ros_store_new rfl rfl rfl rfl rfl ?_)) | (go_at_call 61; ((with_reducible refine ((cn _).out).mono ?_); rintro e w2 ⟨rfl, hb⟩; have C2 := Lib.hid (C1.out.call hb); have Q2 := Lib.hid (Q1.out.below hb Q1.out.lt); have L2 := Lib.hid (L1.out.below (hb.mono C1.out.below.size)); have C3 := Lib.hid (C2.out.store (g' := g) (s' := .slice A n c) (r' := Ros.give r k)); have L3 := Lib.hid (L2.out.old_row (Nat.le_refl _) (Im.cells g (.slice A n c) (Ros.give r k))); have LL := Lib.hid (L3.out.wider C3.out.below.size); have k3 := C3.out.ev.cell; clear hb)) | ((with_reducible refine ros_load rfl rfl ?_); apply LoadRow.mk rfl; (focus (with_reducible exact Q2.out)); (focus (exact ros_info))) | ((with_reducible refine im_store_ros rfl rfl ?_); apply StoreR.mk rfl rfl; (focus (with_reducible exact C2.out.st))))
  go_wp2_with (first | ((with_reducible refine im_load_game rfl rfl ?_); apply LoadIm.mk rfl; (focus (with_reducible exact C3.out.st)); dsimp only) | (go_at_call 97; ((with_reducible refine ((cs _ LL.out).out).mono ?_); rintro e w4 ⟨A4, c4, rfl, hL, hb⟩; have C4 := Lib.hid (C3.out.call hb); have C5 := Lib.hid (C4.out.store (g' := Gm.remove g k) (s' := .slice A4 (Gm.remove g k).shots.length c4) (r' := Ros.give r k)); have L5 := Lib.hid (hL.state_row rfl C4.out.st (Im.cells (Gm.remove g k) (.slice A4 (Gm.remove g k).shots.length c4) (Ros.give r k))); clear hb hL)) | ((with_reducible refine im_store_game rfl rfl ?_); apply StoreG.mk rfl rfl; (focus (with_reducible exact C4.out.st)); (focus rfl)) | (go_at_call 61; ((with_reducible refine ((cn _).out).mono ?_); rintro e w6 ⟨rfl, hb⟩; have C6 := Lib.hid (C5.out.call hb); have L6 := Lib.hid (L5.out.call hb); clear hb)) | ((with_reducible refine im_load_state rfl rfl ?_); apply LoadIm.mk rfl; (focus (with_reducible exact C6.out.st)); dsimp only) | ((with_reducible refine im_store_state rfl rfl ?_); apply StoreS.mk rfl rfl; (focus (with_reducible exact C6.out.out)); (focus (exact Im.zero_size)); (focus rfl)))
  refine bodyPost_ret (v := .agg (Im.cells (Gm.remove g k) (.slice A4 (Gm.remove g k).shots.length c4) (Ros.give r k))) ?_ ?_ ?_
  · exact results_cell_row rfl _ _ _ _ (Im.cells (Gm.remove g k) (.slice A4 (Gm.remove g k).shots.length c4) (Ros.give r k)) (0, 0) _ rfl (C6.out.out.row _).is Tryz.underlying35 rfl (by rw [Im.cells_size]; exact state_info)
  · rfl
  · exact ⟨A4, c4, rfl, L6.out.zero_row rfl C6.out.out _, Below.setRow' C6.out.below (by omega) _⟩
theorem change_yes (s : Fd.S) (v : En.Ev) (A : Option Addr) (n c : Nat) (w : World) (hs : Fd.Fine s) (hv : Fd.MayEv s v) (hn : n = s.g.shots.length) (hr : Lies w w.heap.size 6 A n (Gm.shotCells s.g.shots)) :
    Calls Tryz.prog 59 #[.agg (Im.cells s.g (.slice A n c) s.r), .agg #[.int .i64 v.kind, .int .i64 v.slot, .int .i64 v.gen, .int .i64 v.peer]] w (SOne (Fd.after s v).g (Fd.after s v).r w) := by
  rcases hv with ⟨hk, ht, hg⟩ | ⟨hk, ht, hp, hg⟩
  · obtain ⟨k, hk8, e, e', hpk, ht', hp0⟩ := Fd.take_on ht
    unfold Fd.after
    rw [if_pos hk, e', hk, e]
    exact change_join s.g s.r k v.gen v.peer A n c w hs.ok hs.dice hk8 hn hr ht' (by rw [hg, e'])
  · obtain ⟨k, hk8, e, e', hpk, ht'⟩ := Fd.give_on ht
    unfold Fd.after
    rw [if_neg (by omega), e', hk, e]
    exact change_leave s.g s.r k v.gen v.peer A n c w hs.ok hs.dice hk8 hn hr ht' (by rw [← hp, e']) (by rw [← hg, e'])
end Go.Proofs.YtkkhdaeihnbilaaGreat
namespace Go.Proofs.YtkkhdaeihnbilaaGreat
open Go.RowKit Go.Shelf
set_option linter.unusedVariables false
set_option linter.unusedSimpArgs false


namespace Fd
theorem changes_snoc (s : S) (l : List En.Ev) (k : Nat) (hk : k < l.length) : changes s (l.take (k + 1)) = (changes s (l.take k)).bind fun t => change t l[k] := by
  rw [List.take_succ_eq_append_getElem hk, changes_append]
  congr 1
  funext t
  exact changes_one t _
theorem changes_go {s t : S} {l : List En.Ev} {k : Nat} (hk : k < l.length) (h : changes s (l.take k) = some t) (hv : MayEv t l[k]) : changes s (l.take (k + 1)) = some (after t l[k]) := by
  rw [changes_snoc s l k hk, h, Option.bind_some, change_yes hv]
theorem changes_stop {s t : S} {l : List En.Ev} {k : Nat} (hk : k < l.length) (h : changes s (l.take k) = some t) (hv : ¬ MayEv t l[k]) : changes s l = none := by
  rw [← List.take_append_drop k l, changes_append, h, Option.bind_some, List.drop_eq_getElem_cons hk, changes_cons, change_no hv]
  rfl
theorem apply_stop {s : S} {e : En.E} (hm : May s e) (h : changes s e.evs = none) : apply s e = none := by rw [apply_yes hm, h]; rfl
theorem apply_idle {s t : S} {e : En.E} (hm : May s e) (h : changes s e.evs = some t) (hi : ¬ Idle t.r e.inp) : apply s e = none := by rw [apply_yes hm, h, Option.bind_some, if_neg hi]
theorem apply_done {s t : S} {e : En.E} (hm : May s e) (h : changes s e.evs = some t) (hi : Idle t.r e.inp) : apply s e = some ⟨Gm.step e.inp t.g, t.r⟩ := by rw [apply_yes hm, h, Option.bind_some, if_pos hi]
end Fd
/-- What lies there while an entry is done. -/
structure Bh (w : World) (g : Gm.G) (s : Value) (r : Ros.R) (e : En.E) (sl : Value) (W : World) : Prop where
  st : Box W w.heap.size 35 (Im.cells g s r)
  en : Box W (w.heap.size + 1) 42 (En.cells e sl)
  out : Box W (w.heap.size + 1 + 1) 35 Im.zero
  below : Below w.heap.size w W
section
variable {w W W' : World} {g : Gm.G} {s : Value} {r : Ros.R} {e : En.E} {sl : Value}
theorem Bh.call (h : Bh w g s r e sl W) (hb : Below W.heap.size W W') : Bh w g s r e sl W' :=
  ⟨h.st.below hb h.st.lt, h.en.below hb h.en.lt, h.out.below hb h.out.lt, h.below.trans (hb.mono h.below.size)⟩
theorem Bh.alloc (h : Bh w g s r e sl W) (o : Obj) : Bh w g s r e sl (W.alloc o) := h.call (one_below W o)
theorem Bh.store {g' : Gm.G} {s' : Value} {r' : Ros.R} (h : Bh w g s r e sl W) : Bh w g' s' r' e sl (W.setRow w.heap.size (Im.cells g' s' r')) :=
  ⟨h.st.row _, h.en.row_far (by omega) _, h.out.row_far (by omega) _, Below.setRow' h.below (Nat.le_refl _) _⟩
end
theorem bh_start (w : World) (g : Gm.G) (s : Value) (r : Ros.R) (e : En.E) (sl : Value) : Bh w g s r e sl (((w.alloc (.cells (Im.cells g s r) 35)).alloc (.cells (En.cells e sl) 42)).alloc (.cells Im.zero 35)) :=
  ⟨((Box.made w 35 (Im.cells g s r)).alloc (.cells (En.cells e sl) 42)).alloc (.cells Im.zero 35), (Box.made_at (n := w.heap.size + 1) (w.alloc (.cells (Im.cells g s r) 35)) 42 (En.cells e sl) (by simp)).alloc (.cells Im.zero 35), Box.made_at _ _ _ (by simp),
    (two_below' w (.cells (Im.cells g s r) 35) (.cells (En.cells e sl) 42)).alloc (by simp <;> omega) (.cells Im.zero 35)⟩
theorem in_eql (x y b : Int) (w : World) : (binOp .eql 39 (.agg #[.int .i8 x, .int .i8 y, .int .u8 b]) (.agg #[.int .i8 0, .int .i8 0, .int .u8 0])).run Tryz.prog w = .ok (.bool (En.zero ⟨x, y, b⟩)) w := by
  have h : (Op.equalIn 10000 39 (.agg #[.int .i8 x, .int .i8 y, .int .u8 b]) (.agg #[.int .i8 0, .int .i8 0, .int .u8 0])).run Tryz.prog w = .ok (En.zero ⟨x, y, b⟩) w := by
    by_cases h1 : x = 0
    · by_cases h2 : y = 0
      · by_cases h3 : b = 0
        · subst h1 h2 h3; go_simp <;> simp [En.zero]
        · have h4 : (b == 0) = false := by simpa using h3
          subst h1 h2; go_simp <;> simp [h4, h3, En.zero]
      · have h4 : (y == 0) = false := by simpa using h2
        subst h1; go_simp <;> simp [h4, h2, En.zero]
    · have h4 : (x == 0) = false := by simpa using h1
      go_simp <;> simp [h4, h1, En.zero]
  generalize #[Value.int .i8 x, .int .i8 y, .int .u8 b] = F at *
  generalize #[Value.int .i8 0, .int .i8 0, .int .u8 0] = G at *
  go_simp
/-- What an entry leaves: the state behind it, or a fault. -/
def Behind (s : Fd.S) (e : En.E) (w : World) (r : Ending) (w' : World) : Prop :=
  (∃ u, Fd.apply s e = some u ∧ SOne u.g u.r w r w') ∨ (Fd.apply s e = none ∧ Thrown 1 w r w')

set_option maxRecDepth 100000 in
set_option maxHeartbeats 2000000 in
theorem behind_no (s : Fd.S) (e : En.E) (A A2 : Option Addr) (n c m c2 : Nat) (w : World) (hty : Gm.ty s.g) (hn60 : n ≤ 60) (hn : n = s.g.shots.length) (hr : Lies w w.heap.size 6 A n (Gm.shotCells s.g.shots)) (hm : m = e.evs.length) (hm63 : m ≤ maxLen) (hE : Lies w w.heap.size 4 A2 m (En.evCells e.evs)) (hno : ¬ Fd.May s e) :
    Calls Tryz.prog 29 #[.agg (Im.cells s.g (.slice A n c) s.r), .agg (En.cells e (.slice A2 m c2))] w (Thrown 1 w) := by
  have B0 := Lib.hid (bh_start w s.g (.slice A n c) s.r e (.slice A2 m c2))
  have L0 := Lib.hid ((hr.below B0.out.below).wider B0.out.below.size)
  have E0 := Lib.hid ((hE.below B0.out.below).wider B0.out.below.size)
  have cm := Lib.hid (foldmay_any s.g s.r A n c _ hty (by unfold maxLen; omega) hn L0.out)
  have ce := fun X hX => Lib.hid (enmay_any e A2 m c2 X hm hm63 hX)
  have ct := fun X => Lib.hid (needthat_no X)
  have cy := fun X => Lib.hid (needthat_yes X)
  by_cases hok : Im.Ok s.g s.r
  · have HOK := Lib.hid hok
    by_cases hen : En.Ok e
    · have hfr : (e.frame == s.g.frame) = false := by simpa using fun h => hno ⟨hok, hen, h⟩
      simp only [decide_eq_true hen] at ce
      have hs0 : (Im.cells s.g (.slice A n c) s.r)[0]? = some (.int .i64 s.g.frame) := (Im.cells_g _ _ _ 0 (by omega)).trans (Gm.cells_0 _ _)
      have he0 := En.cells_0 e (.slice A2 m c2)
      clear hok hen hno hr hn hm hm63 hE hty
      go_enter Tryz.func29, Tryz.ntmps29
      go_wp2_with (first | (with_reducible refine alloc_state rfl rfl ?_) | ((with_reducible refine im_load_state rfl rfl ?_); apply LoadIm.mk rfl; (focus (with_reducible exact B0.out.st)); dsimp only) | (go_at_call 14; ((with_reducible refine ((cm).out).mono ?_); rintro x w1 ⟨⟨v, rfl, hv⟩, hb⟩; obtain rfl : v = true := hv.2 HOK.out; have B1 := Lib.hid (B0.out.call hb); have E1 := Lib.hid ((E0.out.below hb).wider hb.size); have L1 := Lib.hid (L0.out.call hb); clear hb hv)) | ((with_reducible refine en_load_g ?_ rfl ?_); (focus first | rfl | kernel_rfl | simp [Region.wanted, yielded]); apply LoadEn.mk rfl; (focus (with_reducible exact B1.out.en)); dsimp only) | (go_at_call 58; ((with_reducible refine ((ce _ E1.out).out).mono ?_); rintro x w2 ⟨rfl, hb⟩; have B2 := Lib.hid (B1.out.call hb); have k2s := B2.out.st.cell 0; have k2e := B2.out.en.cell 0; have L2 := Lib.hid (L1.out.call hb); clear hb)) | (go_at_call 57; ((with_reducible refine ((ct _).out).mono ?_); rintro x w3 ⟨rfl, hb⟩; have K3 := Lib.hid (B2.out.below.trans (hb.mono B2.out.below.size)); clear hb)))
      exact ⟨rfl, rfl, K3.out⟩
    · simp only [decide_eq_false hen] at ce
      clear hok hen hno hr hn hm hm63 hE hty
      go_enter Tryz.func29, Tryz.ntmps29
      go_wp2_with (first | (with_reducible refine alloc_state rfl rfl ?_) | ((with_reducible refine im_load_state rfl rfl ?_); apply LoadIm.mk rfl; (focus (with_reducible exact B0.out.st)); dsimp only) | (go_at_call 14; ((with_reducible refine ((cm).out).mono ?_); rintro x w1 ⟨⟨v, rfl, hv⟩, hb⟩; obtain rfl : v = true := hv.2 HOK.out; have B1 := Lib.hid (B0.out.call hb); have E1 := Lib.hid ((E0.out.below hb).wider hb.size); have L1 := Lib.hid (L0.out.call hb); clear hb hv)) | ((with_reducible refine en_load_g ?_ rfl ?_); (focus first | rfl | kernel_rfl | simp [Region.wanted, yielded]); apply LoadEn.mk rfl; (focus (with_reducible exact B1.out.en)); dsimp only) | (go_at_call 58; ((with_reducible refine ((ce _ E1.out).out).mono ?_); rintro x w2 ⟨rfl, hb⟩; have B2 := Lib.hid (B1.out.call hb); have k2s := B2.out.st.cell 0; have k2e := B2.out.en.cell 0; have L2 := Lib.hid (L1.out.call hb); clear hb)) | (go_at_call 57; ((with_reducible refine ((ct _).out).mono ?_); rintro x w3 ⟨rfl, hb⟩; have K3 := Lib.hid (B2.out.below.trans (hb.mono B2.out.below.size)); clear hb)))
      exact ⟨rfl, rfl, K3.out⟩
  · have HOK := Lib.hid hok
    clear hok hno hr hn hm hm63 hE hty
    go_enter Tryz.func29, Tryz.ntmps29
    go_wp2_with (first | (with_reducible refine alloc_state rfl rfl ?_) | ((with_reducible refine im_load_state rfl rfl ?_); apply LoadIm.mk rfl; (focus (with_reducible exact B0.out.st)); dsimp only) | (go_at_call 14; ((with_reducible refine ((cm).out).mono ?_); rintro x w1 ⟨⟨v, rfl, hv⟩, hb⟩; obtain rfl : v = false := (by cases v <;> first | rfl | exact absurd (hv.1 rfl) HOK.out); have B1 := Lib.hid (B0.out.call hb); have E1 := Lib.hid ((E0.out.below hb).wider hb.size); have L1 := Lib.hid (L0.out.call hb); clear hb hv)) | (go_at_call 57; ((with_reducible refine ((ct _).out).mono ?_); rintro x w3 ⟨rfl, hb⟩; have K3 := Lib.hid (B1.out.below.trans (hb.mono B1.out.below.size)); clear hb)))
    exact ⟨rfl, rfl, K3.out⟩

set_option maxRecDepth 100000 in
set_option maxHeartbeats 4000000 in
theorem behind_go (s : Fd.S) (e : En.E) (A A2 : Option Addr) (n c m c2 : Nat) (w : World) (hty : Gm.ty s.g) (hn60 : n ≤ 60) (hn : n = s.g.shots.length) (hr : Lies w w.heap.size 6 A n (Gm.shotCells s.g.shots)) (hm : m = e.evs.length) (hm63 : m ≤ maxLen) (hE : Lies w w.heap.size 4 A2 m (En.evCells e.evs)) (hin : ∀ i, i < 8 → Gm.tyIn (e.inp i)) (hmay : Fd.May s e) :
    Calls Tryz.prog 29 #[.agg (Im.cells s.g (.slice A n c) s.r), .agg (En.cells e (.slice A2 m c2))] w (Behind s e w) := by
  have B0 := Lib.hid (bh_start w s.g (.slice A n c) s.r e (.slice A2 m c2))
  have L0 := Lib.hid ((hr.below B0.out.below).wider B0.out.below.size)
  have E0 := Lib.hid ((hE.below B0.out.below).wider B0.out.below.size)
  have cm := Lib.hid (foldmay_any s.g s.r A n c _ hty (by unfold maxLen; omega) hn L0.out)
  have ce := fun X hX => Lib.hid (enmay_any e A2 m c2 X hm hm63 hX)
  have ct := fun X => Lib.hid (needthat_no X)
  have cy := fun X => Lib.hid (needthat_yes X)
  have hfine : Fd.Fine s := ⟨hmay.1, hty.2.1⟩
  have HF := Lib.hid hfine
  have HM := Lib.hid hmay
  have HE := Lib.hid hE
  have hN := Lib.hid hn
  have hMN := Lib.hid hm
  have m63 : (m : Int) ≤ 9223372036854775807 := by unfold maxLen at hm63; omega
  have hfr : (e.frame == s.g.frame) = true := by simpa using hmay.2.2
  simp only [decide_eq_true hmay.2.1] at ce
  have hs0 : (Im.cells s.g (.slice A n c) s.r)[0]? = some (.int .i64 s.g.frame) := (Im.cells_g _ _ _ 0 (by omega)).trans (Gm.cells_0 _ _)
  have he0 := En.cells_0 e (.slice A2 m c2)
  have he1 := En.cells_1 e (.slice A2 m c2)
  clear hmay hr hn hm hm63 hE hty hfine
  go_enter Tryz.func29, Tryz.ntmps29
  go_upto_region 2 with (first | (with_reducible refine alloc_state rfl rfl ?_) | ((with_reducible refine im_load_state rfl rfl ?_); apply LoadIm.mk rfl; (focus (with_reducible exact B0.out.st)); dsimp only) | (go_at_call 14; ((with_reducible refine ((cm).out).mono ?_); rintro x w1 ⟨⟨v, rfl, hv⟩, hb⟩; obtain rfl : v = true := hv.2 HM.out.1; have B1 := Lib.hid (B0.out.call hb); have E1 := Lib.hid ((E0.out.below hb).wider hb.size); have L1 := Lib.hid (L0.out.call hb); clear hb hv)) | ((with_reducible refine en_load_g ?_ rfl ?_); (focus first | rfl | kernel_rfl | simp [Region.wanted, yielded]); apply LoadEn.mk rfl; (focus (with_reducible exact B1.out.en)); dsimp only) | (go_at_call 58; ((with_reducible refine ((ce _ E1.out).out).mono ?_); rintro x w2 ⟨rfl, hb⟩; have B2 := Lib.hid (B1.out.call hb); have k2s := B2.out.st.cell 0; have k2e := B2.out.en.cell 0; have L2 := Lib.hid (L1.out.call hb); clear hb)) | (go_at_call 57; ((with_reducible refine ((cy _).out).mono ?_); rintro x w3 ⟨rfl, hb⟩; have B3 := Lib.hid (B2.out.call hb); have k3 := B3.out.en.cell 1; have L3 := Lib.hid (L2.out.call hb); clear hb k2s k2e)))
  clear B0 L0 E0 cm ce B1 E1 L1 B2 L2
  have hn := hN.out
  subst hn
  go_wp2
  go_loopw [29] (fun i wr => ∃ (k : Nat) (t : Fd.S) (A' : Option Addr) (c' : Nat), k ≤ m ∧ i = .int .i64 k ∧ Fd.changes s (e.evs.take k) = some t ∧ Bh w t.g (.slice A' t.g.shots.length c') t.r e (.slice A2 m c2) wr ∧ Lies wr wr.heap.size 6 A' t.g.shots.length (Gm.shotCells t.g.shots)) (fun i _ => m - (intOf i).toNat)
  case atStart => exact ⟨0, s, A, c, Nat.zero_le _, rfl, rfl, B3.out, L3.out⟩
  case round =>
    obtain ⟨k, t, A', c', hk, rfl, hch, hB, hL⟩ := hrel
    clear B3 L3 k3 hs0 he0 hfr
    by_cases hlt : k < m
    · have hk8 : (k : Int) < m := by omega
      have hkl : k < e.evs.length := by have := hMN.out; omega
      obtain ⟨ad, rfl, hbl, e0, e1, e2, e3⟩ := evs_at (HE.out.below hB.below) hMN.out k hkl
      have hok := En.row_mem e.evs (-1) HM.out.2.1.row e.evs[k] (List.getElem_mem hkl)
      have hft := (HF.out.changes hch).1
      have hgo := Lib.hid (fun hv : Fd.MayEv t e.evs[k] => Fd.changes_go hkl hch hv)
      have hst := Lib.hid (fun hv : ¬ Fd.MayEv t e.evs[k] => Fd.apply_stop HM.out (Fd.changes_stop hkl hch hv))
      have cy' := fun X (hv : Fd.MayEv t e.evs[k]) hX => Lib.hid (change_yes t e.evs[k] A' t.g.shots.length c' X hft hv rfl hX)
      have cn' := fun X (hv : ¬ Fd.MayEv t e.evs[k]) => Lib.hid (change_no t e.evs[k] A' t.g.shots.length c' X hok hv)
      generalize hv : e.evs[k] = v at e0 e1 e2 e3 hgo hst cy' cn' hok
      have sz := hB.below.size
      have ltA : ad.block < wr.heap.size := by omega
      have ltP : w.heap.size < wr.heap.size := hB.st.lt
      have B4 := fun o => Lib.hid (hB.alloc o)
      have L4 := fun o => Lib.hid (hL.call (one_below wr o))
      by_cases hev : Fd.MayEv t v
      · have cs := fun X hX => cy' X hev hX
        have HG := Lib.hid (hgo.out hev)
        generalize hu : Fd.after t v = u at cs HG
        obtain ⟨vk, vs, vg, vp⟩ := v
        dsimp only at e0 e1 e2 e3 cs
        clear hu hgo hst cy' cn' hv hev hok hch hB hL hft
        go_wp2_with (first | ((with_reducible refine im_load_state rfl rfl ?_); apply LoadIm.mk rfl; (focus (with_reducible exact (B4 _).out.st)); dsimp only) | (go_at_call 59; ((with_reducible refine ((cs _ (L4 _).out).out).mono ?_); rintro x w5 ⟨A5, c5, rfl, hL5, hb⟩; have B5 := Lib.hid ((B4 _).out.call hb); have B6 := Lib.hid (B5.out.store (g' := u.g) (s' := .slice A5 u.g.shots.length c5) (r' := u.r)); have L6 := Lib.hid (hL5.state_row rfl B5.out.st (Im.cells u.g (.slice A5 u.g.shots.length c5) u.r)); clear hb hL5)) | ((with_reducible refine im_store_state rfl rfl ?_); apply StoreS.mk rfl rfl; (focus (with_reducible exact B5.out.st)); (focus (exact Im.cells_size _ _ _)); (focus rfl)))
        go_roundw
        case rel => exact ⟨k + 1, u, A5, c5, by omega, by go_num, HG.out, B6.out, L6.out⟩
        case measure => simp [intOf]; omega
      · have cs := fun X => cn' X hev
        have HG := Lib.hid (hst.out hev)
        obtain ⟨vk, vs, vg, vp⟩ := v
        dsimp only at e0 e1 e2 e3 cs
        clear hgo hst cy' cn' hv hev hok hch hB hL hft
        go_wp2_with (first | ((with_reducible refine im_load_state rfl rfl ?_); apply LoadIm.mk rfl; (focus (with_reducible exact (B4 _).out.st)); dsimp only) | (go_at_call 59; ((with_reducible refine ((cs _).out).mono ?_); rintro x w5 ⟨rfl, hb⟩; have K5 := Lib.hid ((B4 _).out.below.trans (hb.mono (B4 _).out.below.size)); clear hb)))
        exact ⟨rfl, .inr ⟨HG.out, rfl, K5.out⟩⟩
    · have hk8 : ¬ (k : Int) < m := by omega
      obtain rfl : k = m := by omega
      obtain ⟨k0, hk0⟩ : ∃ k0, k0 = k := ⟨_, rfl⟩
      rw [hMN.out, List.take_length] at hch
      have HC := Lib.hid hch
      rw [← hk0] at hB
      have B3 := Lib.hid hB
      have L3 := Lib.hid hL
      have HT := Lib.hid (HF.out.changes hch)
      clear hch hB hL
      go_wp2_with ((with_reducible refine en_load_ins rfl rfl ?_); apply LoadEn.mk rfl; (focus (with_reducible exact B3.out.en)); dsimp only)
      go_loopw [39] (fun i wr => ∃ k : Nat, k ≤ 8 ∧ i = .int .i64 k ∧ Bh w t.g (.slice A' t.g.shots.length c') t.r e (.slice A2 k0 c2) wr ∧ Lies wr wr.heap.size 6 A' t.g.shots.length (Gm.shotCells t.g.shots) ∧ ∀ j, j < k → t.r.peer j < 0 → En.zero (e.inp j) = true) (fun i _ => 8 - (intOf i).toNat)
      case atStart => exact ⟨0, by omega, rfl, B3.out, L3.out, fun j hj => absurd hj (Nat.not_lt_zero j)⟩
      case round =>
        obtain ⟨k, hk, rfl, hB, hL, hall⟩ := hrel
        clear B3 L3
        by_cases hlt : k < 8
        · have hk8 : (k : Int) < 8 := by omega
          have hpart := in_index e.inp k hlt
          have hcell : ∀ o, (wr.alloc o).cell? ⟨w.heap.size, 60 + k * 2, none⟩ = some (.int .i64 (t.r.peer k)) := fun o => ((hB.st.alloc o).cell _).trans (Im.cells_peer t.g _ t.r k hlt)
          have hnext := Lib.hid (fun (h : t.r.peer k < 0 → En.zero (e.inp k) = true) => show ∀ j, j < k + 1 → t.r.peer j < 0 → En.zero (e.inp j) = true from fun j hj => by
            by_cases ej : j = k
            · rw [ej]; exact h
            · exact hall j (by omega))
          have hbad := Lib.hid (fun (h : t.r.peer k < 0) (h' : En.zero (e.inp k) = false) => Fd.apply_idle HM.out HC.out (fun hi => by have := hi k hlt h; rw [h'] at this; cases this))
          obtain ⟨p, hp⟩ : ∃ p, p = e.inp k := ⟨_, rfl⟩
          rw [← hp] at hpart hnext hbad
          obtain ⟨x, y, b⟩ := p
          dsimp only at hpart
          have hq := fun W => in_eql x y b W
          generalize hzz : En.zero ⟨x, y, b⟩ = z at hq hnext hbad
          obtain ⟨pk, hpk⟩ : ∃ pk, pk = t.r.peer k := ⟨_, rfl⟩
          rw [← hpk] at hcell hnext hbad
          have B4 := fun o => Lib.hid (hB.alloc o)
          have L4 := fun o => Lib.hid (hL.call (one_below wr o))
          have sz : w.heap.size ≤ wr.heap.size := hB.below.size
          have ltP : w.heap.size < wr.heap.size := hB.st.lt
          clear hp hpk hall hB hL hzz
          by_cases hp0 : 0 ≤ pk
          · have hn := Lib.hid (hnext.out (fun h => absurd h (by omega)))
            clear hnext hbad
            go_wp2_with (go_at_call 57; ((with_reducible refine ((cy _).out).mono ?_); rintro x w5 ⟨rfl, hb⟩; have B5 := Lib.hid ((B4 _).out.call hb); have L5 := Lib.hid ((L4 _).out.call hb); clear hb))
            go_roundw
            case rel => exact ⟨k + 1, by omega, by go_num, B5.out, L5.out, hn.out⟩
            case measure => simp [intOf]; omega
          · cases z
            · have hn := Lib.hid (hbad.out (by omega) rfl)
              clear hnext hbad
              go_wp2_with (go_at_call 57; ((with_reducible refine ((ct _).out).mono ?_); rintro x w5 ⟨rfl, hb⟩; have K5 := Lib.hid ((B4 _).out.below.trans (hb.mono (B4 _).out.below.size)); clear hb))
              exact ⟨rfl, .inr ⟨hn.out, rfl, K5.out⟩⟩
            · have hn := Lib.hid (hnext.out (fun _ => rfl))
              clear hnext hbad
              go_wp2_with (go_at_call 57; ((with_reducible refine ((cy _).out).mono ?_); rintro x w5 ⟨rfl, hb⟩; have B5 := Lib.hid ((B4 _).out.call hb); have L5 := Lib.hid ((L4 _).out.call hb); clear hb))
              go_roundw
              case rel => exact ⟨k + 1, by omega, by go_num, B5.out, L5.out, hn.out⟩
              case measure => simp [intOf]; omega
        · have hk8 : ¬ (k : Int) < 8 := by omega
          obtain rfl : k = 8 := by omega
          have HR := Lib.hid (Fd.apply_done HM.out HC.out hall)
          have hstep := fun X hX => Lib.hid (step_yes e.inp t.g A' t.g.shots.length c' X HT.out.1.ok.1 (by have := HT.out.2; have := HM.out.2.1.frame; have := HM.out.2.2; omega) HT.out.1.dice hin rfl hX)
          have cn := fun X => Lib.hid (need_ok X)
          have B6 := Lib.hid hB
          have L6 := Lib.hid hL
          generalize hG : Gm.step e.inp t.g = G at hstep HR
          clear hall hB hL hG
          go_upto_region 14 with (first | ((with_reducible refine im_load_game rfl rfl ?_); apply LoadIm.mk rfl; (focus (with_reducible exact B6.out.st)); dsimp only) | ((with_reducible refine en_load_ins rfl rfl ?_); apply LoadEn.mk rfl; (focus (with_reducible exact B6.out.en)); dsimp only) | (go_at_call 60; ((with_reducible refine ((hstep _ L6.out).out).mono ?_); rintro x w7 ⟨A7, c7, rfl, hL, hb⟩; have B7 := Lib.hid ((B6.out.call hb).alloc (.cells (Gm.cells G (.slice A7 G.shots.length c7)) 28)); have L7 := Lib.hid (hL.call (one_below w7 (.cells (Gm.cells G (.slice A7 G.shots.length c7)) 28))); have G7 := Lib.hid (Box.made w7 28 (Gm.cells G (.slice A7 G.shots.length c7))); clear hb hL)) | (refine wpList_alloc_game rfl rfl ?_) | (refine wpList_store_game_new rfl rfl rfl rfl rfl rfl ?_) | (go_at_call 61; ((with_reducible refine ((cn _).out).mono ?_); rintro x w8 ⟨rfl, hb⟩; have B8 := Lib.hid (B7.out.call hb); have L8 := Lib.hid (L7.out.call hb); have G8 := Lib.hid (G7.out.below hb G7.out.lt); have B9 := Lib.hid (B8.out.store (g' := G) (s' := .slice A7 G.shots.length c7) (r' := t.r)); have L9 := Lib.hid (L8.out.state_row rfl B8.out.st (Im.cells G (.slice A7 G.shots.length c7) t.r)); clear hb)))
          go_wp2_with (first | ((with_reducible refine load_gate rfl rfl ?_); apply LoadGame.mk rfl; (with_reducible exact G8.out)) | ((with_reducible refine im_store_game rfl rfl ?_); apply StoreG.mk rfl rfl; (focus (with_reducible exact B8.out.st)); (focus rfl)) | ((with_reducible refine im_load_state rfl rfl ?_); apply LoadIm.mk rfl; (focus (with_reducible exact B9.out.st)); dsimp only) | ((with_reducible refine im_store_state rfl rfl ?_); apply StoreS.mk rfl rfl; (focus (with_reducible exact B9.out.out)); (focus (exact Im.zero_size)); (focus rfl)))
          refine bodyPost_ret (v := .agg (Im.cells G (.slice A7 G.shots.length c7) t.r)) ?_ ?_ ?_
          · exact results_cell_row rfl _ _ _ _ (Im.cells G (.slice A7 G.shots.length c7) t.r) (0, 0) _ rfl (B9.out.out.row _).is Tryz.underlying35 rfl (by rw [Im.cells_size]; exact state_info)
          · rfl
          · exact .inl ⟨_, HR.out, A7, c7, rfl, L9.out.zero_row rfl B9.out.out _, Below.setRow' B9.out.below (by omega) _⟩
end Go.Proofs.YtkkhdaeihnbilaaGreat
namespace Go.Proofs.YtkkhdaeihnbilaaGreat
open Go.RowKit Go.Shelf
set_option linter.unusedVariables false
set_option linter.unusedSimpArgs false


theorem fault_is (W : World) (v : Value) : (Instr.typeAssert (.iface 97 v) 20 97 true).run Tryz.prog W = .ok (.tuple #[v, .bool true]) W := by kernel_rfl
set_option maxRecDepth 100000 in
set_option maxHeartbeats 1000000 in
theorem catch_fault (g : Gm.G) (r : Ros.R) (A : Option Addr) (n c Bs Bn Bc : Nat) (code y : Int) (older : List PanicEntry) (w : World) (Z : Array Value) (hZ : Z.size = 76) (hn60 : n ≤ 60) (hn : n = g.shots.length) (hr : Lies w w.heap.size 6 A n (Gm.shotCells g.shots))
    (hs : Box w Bs 35 (Im.cells g (.slice A n c) r)) (hb : Box w Bn 35 Z) (hc : Box w Bc 3 #[.int .i64 y]) :
    CallsD Tryz.prog 56 #[.pointer (some ⟨Bs, 0, none⟩), .pointer (some ⟨Bn, 0, none⟩), .pointer (some ⟨Bc, 0, none⟩)] (.panicking ({ v := .iface 97 (.int .i64 code), recovered := false } :: older)) w fun e u' w' =>
      e = .returned (.tuple #[]) ∧ u' = .panicking ({ v := .iface 97 (.int .i64 code), recovered := true } :: older) ∧
        ∃ A' c' w1, w' = (w1.setRow Bn (Im.cells g (.slice A' n c') r)).setCell ⟨Bc, 0, none⟩ (.int .i64 code) ∧ Lies w1 w1.heap.size 6 A' n (Gm.shotCells g.shots) ∧ Below w.heap.size w w1 := by
  have ne : Bn ≠ Bc := Box.apart hb hc (by decide)
  have co := Lib.hid (foldown_any g r A n c w hn60 hn hr)
  have HS := Lib.hid hs
  have HB := Lib.hid hb
  have HC := Lib.hid hc
  have HN := Lib.hid hn
  clear hs hb hc hr hn
  refine callsD_of_wpS Tryz.func56 rfl fun c₀ cs hu => ?_
  apply wpS_seq
  apply wpS_region
  simp [wpOpsS, go_sem, recoverD, hu, Tryz.ntmps56, Exit.thenS]
  have hta := fun W => fault_is W (.int .i64 code)
  refine wpS_of_wp ?_
  simp only [Array.replicate_succ, Array.replicate_zero, List.push_toArray, List.append_toArray, List.nil_append, List.cons_append, List.setIfInBounds_toArray, List.set_cons_succ, List.set_cons_zero]
  go_wp2_with (first | ((with_reducible refine im_load_state rfl rfl ?_); apply LoadIm.mk rfl; (focus (with_reducible exact HS.out)); dsimp only) | (go_at_call 42; ((with_reducible refine ((co).out).mono ?_); rintro x w1 ⟨A1, c1, rfl, hL, hK⟩; have S1 := Lib.hid (HB.out.below hK HB.out.lt); have D1 := HC.out.below hK HC.out.lt; have D2 := Lib.hid (D1.row_far (fun e => ne e.symm) (Im.cells g (.slice A1 g.shots.length c1) r)); have k2 := D2.out.cell 0; have f2 := D2.out.free 0; have L1 := Lib.hid hL; have K1 := Lib.hid hK; clear hL hK D1)) | ((with_reducible refine im_store_state rfl rfl ?_); apply StoreS.mk rfl rfl; (focus (with_reducible exact S1.out)); (focus (exact hZ)); (focus rfl)))
  have hn := HN.out
  subst hn
  simp [bodyPostS, results, Tryz.results56]
  exact ⟨A1, c1, w1, rfl, L1.out, K1.out⟩

set_option maxRecDepth 100000 in
theorem catch_idle_fold (p q s : Addr) (w : World) :
    CallsD Tryz.prog 56 #[.pointer (some s), .pointer (some p), .pointer (some q)] .returning w fun e u' w' => e = .returned (.tuple #[]) ∧ u' = .returning ∧ w' = w := by
  refine callsD_of_wpS Tryz.func56 rfl fun c₀ cs hu => ?_
  apply wpS_seq
  apply wpS_region
  simp [wpOpsS, go_sem, recoverD, hu, Tryz.ntmps56, Exit.thenS]
  refine wpS_of_wp ?_
  simp only [Array.replicate_succ, Array.replicate_zero, List.push_toArray, List.append_toArray, List.nil_append, List.cons_append, List.setIfInBounds_toArray, List.set_cons_succ, List.set_cons_zero]
  go_wp2
  cases c₀
  simp_all [bodyPostS, results, Tryz.results56]
end Go.Proofs.YtkkhdaeihnbilaaGreat
