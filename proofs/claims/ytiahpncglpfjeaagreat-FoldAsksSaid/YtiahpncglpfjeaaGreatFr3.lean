/-
Several texts in one: Er I5 Ra Fas Hh Eo Tj Iw.
-/
import Derived.Test.YtiahpncglpfjeaaGreatFr2
namespace En
open Go
set_option linter.unusedVariables false
/-- The document's own state: which kind it is at, behind which slot. -/
def At (kd sl z : Int) : Prop := (kd = 2 ∧ (-1 ≤ sl ∧ sl ≤ 7) ∧ z = sl) ∨ (kd = 1 ∧ (0 ≤ sl ∧ sl ≤ 7) ∧ z = 8 + sl)
end En
namespace Go.Proofs.YtiahpncglpfjeaaGreat
open Go.RowKit Go.Shelf
set_option linter.unusedVariables false
set_option linter.unusedSimpArgs false

theorem refmayin_any (x y b : Int) (w : World) (hx : -128 ≤ x) (hy : -128 ≤ y) :
    Calls Tryz.prog 62 #[.agg #[.int .i8 x, .int .i8 y, .int .u8 b]] w fun e w' => e = .returned (.bool (decide (-127 ≤ x ∧ -127 ≤ y))) ∧ Below w.heap.size w w' := by
  by_cases h1 : x = -128
  · subst h1
    go_enter Tryz.func62, Tryz.ntmps62
    go_wp2
    go_ret
    exact ⟨ret_bool (by simp), one_below _ _⟩
  · have e1 : (x != -128) = true := by simpa using h1
    by_cases h2 : y = -128
    · subst h2
      go_enter Tryz.func62, Tryz.ntmps62
      go_wp2
      go_ret
      exact ⟨ret_bool (by simp), one_below _ _⟩
    · have e2 : (y != -128) = true := by simpa using h2
      have hd : decide (-127 ≤ x ∧ -127 ≤ y) = true := decide_eq_true (by omega)
      rw [hd]
      go_enter Tryz.func62, Tryz.ntmps62
      go_wp2
      go_ret
      exact ⟨ret_bool (by simp), one_below _ _⟩

set_option maxRecDepth 100000 in
set_option maxHeartbeats 8000000 in
theorem refmayen_any (e : En.E) (A : Option Addr) (n c : Nat) (w : World) (hn : n = e.evs.length) (hn63 : n ≤ maxLen) (hty : ∀ i, i < 8 → Gm.tyIn (e.inp i)) (hL : Lies w w.heap.size 4 A n (En.evCells e.evs)) :
    Calls Tryz.prog 30 #[.agg (En.cells e (.slice A n c))] w fun r w' => r = .returned (.bool (decide (En.Ok e))) ∧ Below w.heap.size w w' := by
  obtain ⟨d, hv⟩ : ∃ d, d = decide (En.Ok e) := ⟨_, rfl⟩
  rw [← hv]
  have HV := Lib.hid hv
  have HN := Lib.hid hn
  clear hv hn
  have P0 := Lib.hid (Box.made w 42 (En.cells e (.slice A n c)))
  have K0 := Lib.hid (one_below w (.cells (En.cells e (.slice A n c)) 42))
  have hr0 := Lib.hid ((hL.below K0.out).wider K0.out.size)
  have c0 := P0.out.cell 0
  have c1 := P0.out.cell 1
  rw [En.cells_0] at c0
  rw [En.cells_1] at c1
  have n63 : (n : Int) ≤ 9223372036854775807 := by unfold maxLen at hn63; omega
  clear hL hn63
  by_cases hf1 : e.frame < 0
  · have hno := Lib.hid (show ¬ En.Ok e from fun h => by have := h.frame; omega)
    go_enter Tryz.func30, Tryz.ntmps30
    go_wp2
    go_ret
    exact ⟨ret_bool (by rw [HV.out]; exact (decide_eq_false hno.out).symm), K0.out⟩
  by_cases hf2 : 1048576 ≤ e.frame
  · have hno := Lib.hid (show ¬ En.Ok e from fun h => by have := h.frame; omega)
    go_enter Tryz.func30, Tryz.ntmps30
    go_wp2
    go_ret
    exact ⟨ret_bool (by rw [HV.out]; exact (decide_eq_false hno.out).symm), K0.out⟩
  have HF := Lib.hid (show 0 ≤ e.frame ∧ e.frame < 1048576 by omega)
  go_enter Tryz.func30, Tryz.ntmps30
  go_wp2
  go_loopw [3, 4, 5] (fun kv sv i wr => ∃ (k : Nat) (kd sl z : Int), k ≤ n ∧ i = .int .i64 k ∧ kv = .int .i64 kd ∧ sv = .int .i64 sl ∧ En.At kd sl z ∧ (En.Row (-1) e.evs ↔ En.Row z (e.evs.drop k)) ∧ Below (w.alloc (.cells (En.cells e (.slice A n c)) 42)).heap.size (w.alloc (.cells (En.cells e (.slice A n c)) 42)) wr) (fun _ _ i _ => n - (intOf i).toNat)
  case atStart => exact ⟨0, 2, -1, -1, by omega, rfl, rfl, rfl, .inl ⟨rfl, by omega, rfl⟩, Iff.rfl, Below.refl _ _⟩
  case round =>
    obtain ⟨k, kd, sl, z, hk, rfl, rfl, rfl, hat, hrow, hb⟩ := hrel
    have p1 := ((P0.out.below hb P0.out.lt).cell 1).trans (En.cells_1 _ _)
    have HB := Lib.hid hb
    have KB := Lib.hid (K0.out.trans (hb.mono K0.out.size))
    by_cases hlt : k < n
    · have hk8 : (k : Int) < n := by omega
      have hkl : k < e.evs.length := by have := HN.out; omega
      obtain ⟨ad, rfl, hbl, e0, e1, e2, e3⟩ := evs_at (hr0.out.below hb) HN.out k hkl
      rw [List.drop_eq_getElem_cons hkl] at hrow
      generalize hv : e.evs[k] = v at e0 e1 e2 e3 hrow
      obtain ⟨vk, vs, vg, vp⟩ := v
      dsimp only at e0 e1 e2 e3
      have hrow' : En.Row (-1) e.evs ↔ (En.evOk ⟨vk, vs, vg, vp⟩ ∧ z < En.place ⟨vk, vs, vg, vp⟩) ∧ En.Row (En.place ⟨vk, vs, vg, vp⟩) (e.evs.drop (k + 1)) := hrow
      have HW := Lib.hid hrow'
      have sz := hb.size
      have ltA : ad.block < wr.heap.size := Nat.lt_of_lt_of_le hbl hb.size
      have ltP := (P0.out.below hb P0.out.lt).lt
      have Q1 := Lib.hid (Box.made wr 61 #[.int .i64 vk, .int .i64 vs, .int .i64 vg, .int .i64 vp])
      have K1 := Lib.hid (KB.out.alloc KB.out.size (.cells #[.int .i64 vk, .int .i64 vs, .int .i64 vg, .int .i64 vp] 61))
      have KX := Lib.hid (HB.out.alloc HB.out.size (.cells #[.int .i64 vk, .int .i64 vs, .int .i64 vg, .int .i64 vp] 61))
      have q1 := Q1.out.cell
      have HAT := Lib.hid hat
      clear hrow hrow' hb hv hat
      rcases HAT.out with ⟨rfl, hs, rfl⟩ | ⟨rfl, hs, rfl⟩
      · by_cases k1 : vk = 1
        · subst k1
          have HPL := Lib.hid (show En.place ⟨1, vs, vg, vp⟩ = 8 + vs from rfl)
          by_cases t1 : vs ≤ -1
          · have HNO := Lib.hid (show ¬ (En.evOk ⟨1, vs, vg, vp⟩ ∧ z < En.place ⟨1, vs, vg, vp⟩) from fun h => by obtain ⟨⟨_, h2, _⟩, h5⟩ := h; rw [HPL.out] at h5; dsimp only at h2 h5; omega)
            go_wp2
            go_ret
            exact ⟨ret_bool (by rw [HV.out]; exact (decide_eq_false fun h => absurd (HW.out.1 h.row).1 HNO.out).symm), K1.out⟩
          by_cases t2 : 8 ≤ vs
          · have HNO := Lib.hid (show ¬ (En.evOk ⟨1, vs, vg, vp⟩ ∧ z < En.place ⟨1, vs, vg, vp⟩) from fun h => by obtain ⟨⟨_, h2, h3, h4⟩, _⟩ := h; dsimp only at h2 h3 h4; omega)
            go_wp2
            go_ret
            exact ⟨ret_bool (by rw [HV.out]; exact (decide_eq_false fun h => absurd (HW.out.1 h.row).1 HNO.out).symm), K1.out⟩
          by_cases t3 : vg < 1
          · have HNO := Lib.hid (show ¬ (En.evOk ⟨1, vs, vg, vp⟩ ∧ z < En.place ⟨1, vs, vg, vp⟩) from fun h => by obtain ⟨⟨_, h2, h3, h4⟩, _⟩ := h; dsimp only at h2 h3 h4; omega)
            go_wp2
            go_ret
            exact ⟨ret_bool (by rw [HV.out]; exact (decide_eq_false fun h => absurd (HW.out.1 h.row).1 HNO.out).symm), K1.out⟩
          by_cases t4 : 60000 < vg
          · have HNO := Lib.hid (show ¬ (En.evOk ⟨1, vs, vg, vp⟩ ∧ z < En.place ⟨1, vs, vg, vp⟩) from fun h => by obtain ⟨⟨_, h2, h3, h4⟩, _⟩ := h; dsimp only at h2 h3 h4; omega)
            go_wp2
            go_ret
            exact ⟨ret_bool (by rw [HV.out]; exact (decide_eq_false fun h => absurd (HW.out.1 h.row).1 HNO.out).symm), K1.out⟩
          by_cases t5 : vp < 0
          · have HNO := Lib.hid (show ¬ (En.evOk ⟨1, vs, vg, vp⟩ ∧ z < En.place ⟨1, vs, vg, vp⟩) from fun h => by obtain ⟨⟨_, h2, h3, h4⟩, _⟩ := h; dsimp only at h2 h3 h4; omega)
            go_wp2
            go_ret
            exact ⟨ret_bool (by rw [HV.out]; exact (decide_eq_false fun h => absurd (HW.out.1 h.row).1 HNO.out).symm), K1.out⟩
          by_cases t6 : 12 ≤ vp
          · have HNO := Lib.hid (show ¬ (En.evOk ⟨1, vs, vg, vp⟩ ∧ z < En.place ⟨1, vs, vg, vp⟩) from fun h => by obtain ⟨⟨_, h2, h3, h4⟩, _⟩ := h; dsimp only at h2 h3 h4; omega)
            go_wp2
            go_ret
            exact ⟨ret_bool (by rw [HV.out]; exact (decide_eq_false fun h => absurd (HW.out.1 h.row).1 HNO.out).symm), K1.out⟩
          have HNX := Lib.hid (show En.Row (-1) e.evs ↔ En.Row (8 + vs) (e.evs.drop (k + 1)) from by rw [HW.out, HPL.out]; exact ⟨fun h => h.2, fun h => ⟨⟨⟨by first | exact .inl rfl | exact .inr rfl, by dsimp only; omega, by dsimp only; omega, by dsimp only; omega⟩, by (try dsimp only); omega⟩, h⟩⟩)
          go_wp2
          go_roundw
          case rel => exact ⟨k + 1, 1, vs, 8 + vs, by omega, by go_num, rfl, rfl, .inr ⟨rfl, by omega, rfl⟩, HNX.out, KX.out⟩
          case measure => simp [intOf]; omega
        · by_cases k2 : vk = 2
          · subst k2
            have HPL := Lib.hid (show En.place ⟨2, vs, vg, vp⟩ = vs from rfl)
            by_cases t1 : vs ≤ z
            · have HNO := Lib.hid (show ¬ (En.evOk ⟨2, vs, vg, vp⟩ ∧ z < En.place ⟨2, vs, vg, vp⟩) from fun h => by obtain ⟨⟨_, h2, _⟩, h5⟩ := h; rw [HPL.out] at h5; dsimp only at h2 h5; omega)
              go_wp2
              go_ret
              exact ⟨ret_bool (by rw [HV.out]; exact (decide_eq_false fun h => absurd (HW.out.1 h.row).1 HNO.out).symm), K1.out⟩
            by_cases t2 : 8 ≤ vs
            · have HNO := Lib.hid (show ¬ (En.evOk ⟨2, vs, vg, vp⟩ ∧ z < En.place ⟨2, vs, vg, vp⟩) from fun h => by obtain ⟨⟨_, h2, h3, h4⟩, _⟩ := h; dsimp only at h2 h3 h4; omega)
              go_wp2
              go_ret
              exact ⟨ret_bool (by rw [HV.out]; exact (decide_eq_false fun h => absurd (HW.out.1 h.row).1 HNO.out).symm), K1.out⟩
            by_cases t3 : vg < 1
            · have HNO := Lib.hid (show ¬ (En.evOk ⟨2, vs, vg, vp⟩ ∧ z < En.place ⟨2, vs, vg, vp⟩) from fun h => by obtain ⟨⟨_, h2, h3, h4⟩, _⟩ := h; dsimp only at h2 h3 h4; omega)
              go_wp2
              go_ret
              exact ⟨ret_bool (by rw [HV.out]; exact (decide_eq_false fun h => absurd (HW.out.1 h.row).1 HNO.out).symm), K1.out⟩
            by_cases t4 : 60000 < vg
            · have HNO := Lib.hid (show ¬ (En.evOk ⟨2, vs, vg, vp⟩ ∧ z < En.place ⟨2, vs, vg, vp⟩) from fun h => by obtain ⟨⟨_, h2, h3, h4⟩, _⟩ := h; dsimp only at h2 h3 h4; omega)
              go_wp2
              go_ret
              exact ⟨ret_bool (by rw [HV.out]; exact (decide_eq_false fun h => absurd (HW.out.1 h.row).1 HNO.out).symm), K1.out⟩
            by_cases t5 : vp < 0
            · have HNO := Lib.hid (show ¬ (En.evOk ⟨2, vs, vg, vp⟩ ∧ z < En.place ⟨2, vs, vg, vp⟩) from fun h => by obtain ⟨⟨_, h2, h3, h4⟩, _⟩ := h; dsimp only at h2 h3 h4; omega)
              go_wp2
              go_ret
              exact ⟨ret_bool (by rw [HV.out]; exact (decide_eq_false fun h => absurd (HW.out.1 h.row).1 HNO.out).symm), K1.out⟩
            by_cases t6 : 12 ≤ vp
            · have HNO := Lib.hid (show ¬ (En.evOk ⟨2, vs, vg, vp⟩ ∧ z < En.place ⟨2, vs, vg, vp⟩) from fun h => by obtain ⟨⟨_, h2, h3, h4⟩, _⟩ := h; dsimp only at h2 h3 h4; omega)
              go_wp2
              go_ret
              exact ⟨ret_bool (by rw [HV.out]; exact (decide_eq_false fun h => absurd (HW.out.1 h.row).1 HNO.out).symm), K1.out⟩
            have HNX := Lib.hid (show En.Row (-1) e.evs ↔ En.Row (vs) (e.evs.drop (k + 1)) from by rw [HW.out, HPL.out]; exact ⟨fun h => h.2, fun h => ⟨⟨⟨by first | exact .inl rfl | exact .inr rfl, by dsimp only; omega, by dsimp only; omega, by dsimp only; omega⟩, by (try dsimp only); omega⟩, h⟩⟩)
            go_wp2
            go_roundw
            case rel => exact ⟨k + 1, 2, vs, vs, by omega, by go_num, rfl, rfl, .inl ⟨rfl, by omega, rfl⟩, HNX.out, KX.out⟩
            case measure => simp [intOf]; omega
          · have b1 : (vk == 1) = false := by simpa using k1
            have b2 : (vk != 2) = true := by simpa using k2
            have HNO := Lib.hid (show ¬ (En.evOk ⟨vk, vs, vg, vp⟩ ∧ z < En.place ⟨vk, vs, vg, vp⟩) from fun h => by obtain ⟨⟨h1, _⟩, _⟩ := h; dsimp only at h1; omega)
            go_wp2
            go_ret
            exact ⟨ret_bool (by rw [HV.out]; exact (decide_eq_false fun h => absurd (HW.out.1 h.row).1 HNO.out).symm), K1.out⟩
      · by_cases k1 : vk = 1
        · subst k1
          have HPL := Lib.hid (show En.place ⟨1, vs, vg, vp⟩ = 8 + vs from rfl)
          by_cases t1 : vs ≤ sl
          · have HNO := Lib.hid (show ¬ (En.evOk ⟨1, vs, vg, vp⟩ ∧ 8 + sl < En.place ⟨1, vs, vg, vp⟩) from fun h => by obtain ⟨⟨_, h2, _⟩, h5⟩ := h; rw [HPL.out] at h5; dsimp only at h2 h5; omega)
            go_wp2
            go_ret
            exact ⟨ret_bool (by rw [HV.out]; exact (decide_eq_false fun h => absurd (HW.out.1 h.row).1 HNO.out).symm), K1.out⟩
          by_cases t2 : 8 ≤ vs
          · have HNO := Lib.hid (show ¬ (En.evOk ⟨1, vs, vg, vp⟩ ∧ 8 + sl < En.place ⟨1, vs, vg, vp⟩) from fun h => by obtain ⟨⟨_, h2, h3, h4⟩, _⟩ := h; dsimp only at h2 h3 h4; omega)
            go_wp2
            go_ret
            exact ⟨ret_bool (by rw [HV.out]; exact (decide_eq_false fun h => absurd (HW.out.1 h.row).1 HNO.out).symm), K1.out⟩
          by_cases t3 : vg < 1
          · have HNO := Lib.hid (show ¬ (En.evOk ⟨1, vs, vg, vp⟩ ∧ 8 + sl < En.place ⟨1, vs, vg, vp⟩) from fun h => by obtain ⟨⟨_, h2, h3, h4⟩, _⟩ := h; dsimp only at h2 h3 h4; omega)
            go_wp2
            go_ret
            exact ⟨ret_bool (by rw [HV.out]; exact (decide_eq_false fun h => absurd (HW.out.1 h.row).1 HNO.out).symm), K1.out⟩
          by_cases t4 : 60000 < vg
          · have HNO := Lib.hid (show ¬ (En.evOk ⟨1, vs, vg, vp⟩ ∧ 8 + sl < En.place ⟨1, vs, vg, vp⟩) from fun h => by obtain ⟨⟨_, h2, h3, h4⟩, _⟩ := h; dsimp only at h2 h3 h4; omega)
            go_wp2
            go_ret
            exact ⟨ret_bool (by rw [HV.out]; exact (decide_eq_false fun h => absurd (HW.out.1 h.row).1 HNO.out).symm), K1.out⟩
          by_cases t5 : vp < 0
          · have HNO := Lib.hid (show ¬ (En.evOk ⟨1, vs, vg, vp⟩ ∧ 8 + sl < En.place ⟨1, vs, vg, vp⟩) from fun h => by obtain ⟨⟨_, h2, h3, h4⟩, _⟩ := h; dsimp only at h2 h3 h4; omega)
            go_wp2
            go_ret
            exact ⟨ret_bool (by rw [HV.out]; exact (decide_eq_false fun h => absurd (HW.out.1 h.row).1 HNO.out).symm), K1.out⟩
          by_cases t6 : 12 ≤ vp
          · have HNO := Lib.hid (show ¬ (En.evOk ⟨1, vs, vg, vp⟩ ∧ 8 + sl < En.place ⟨1, vs, vg, vp⟩) from fun h => by obtain ⟨⟨_, h2, h3, h4⟩, _⟩ := h; dsimp only at h2 h3 h4; omega)
            go_wp2
            go_ret
            exact ⟨ret_bool (by rw [HV.out]; exact (decide_eq_false fun h => absurd (HW.out.1 h.row).1 HNO.out).symm), K1.out⟩
          have HNX := Lib.hid (show En.Row (-1) e.evs ↔ En.Row (8 + vs) (e.evs.drop (k + 1)) from by rw [HW.out, HPL.out]; exact ⟨fun h => h.2, fun h => ⟨⟨⟨by first | exact .inl rfl | exact .inr rfl, by dsimp only; omega, by dsimp only; omega, by dsimp only; omega⟩, by (try dsimp only); omega⟩, h⟩⟩)
          go_wp2
          go_roundw
          case rel => exact ⟨k + 1, 1, vs, 8 + vs, by omega, by go_num, rfl, rfl, .inr ⟨rfl, by omega, rfl⟩, HNX.out, KX.out⟩
          case measure => simp [intOf]; omega
        · have b1 : (vk == 1) = false := by simpa using k1
          have b2 : (vk != 1) = true := by simpa using k1
          have HNO := Lib.hid (show ¬ (En.evOk ⟨vk, vs, vg, vp⟩ ∧ 8 + sl < En.place ⟨vk, vs, vg, vp⟩) from fun h => by
            obtain ⟨⟨h1, h2, _⟩, h5⟩ := h
            dsimp only at h1 h2
            have : vk = 2 := by omega
            subst this
            rw [show En.place ⟨2, vs, vg, vp⟩ = vs from rfl] at h5
            omega)
          go_wp2
          go_ret
          exact ⟨ret_bool (by rw [HV.out]; exact (decide_eq_false fun h => absurd (HW.out.1 h.row).1 HNO.out).symm), K1.out⟩
    · have hk8 : ¬ (k : Int) < n := by omega
      obtain rfl : k = n := by omega
      have hd : e.evs.drop k = [] := List.drop_eq_nil_of_le (by have := HN.out; omega)
      rw [hd] at hrow
      have HW := Lib.hid (show En.Row (-1) e.evs from hrow.2 trivial)
      clear hrow hb hat c0 c1
      go_wp2
      go_loopw [7] (fun i wq => ∃ m : Nat, m ≤ 8 ∧ i = .int .i64 m ∧ Below wr.heap.size wr wq ∧ ∀ j, j < m → En.inOk (e.inp j)) (fun i _ => 8 - (intOf i).toNat)
      case atStart => exact ⟨0, by omega, rfl, Below.refl _ _, fun j hj => absurd hj (Nat.not_lt_zero j)⟩
      case round =>
        obtain ⟨m, hm, rfl, hb2, hall⟩ := hrel
        have KM := Lib.hid (KB.out.trans (hb2.mono KB.out.size))
        have PM := Lib.hid ((P0.out.below HB.out P0.out.lt).below hb2 (P0.out.below HB.out P0.out.lt).lt)
        clear p1
        by_cases hlt8 : m < 8
        · have hm8 : (m : Int) < 8 := by omega
          have e0 := (PM.out.cell (2 + m * 3)).trans (En.cells_in e _ m 0 hlt8 (by omega))
          have e1 := (PM.out.cell (2 + m * 3 + 1)).trans (En.cells_in e _ m 1 hlt8 (by omega))
          have e2 := (PM.out.cell (2 + m * 3 + 2)).trans (En.cells_in e _ m 2 hlt8 (by omega))
          have hok : En.inOk (e.inp m) ↔ (-127 ≤ (e.inp m).x ∧ -127 ≤ (e.inp m).y) := Iff.rfl
          have hti := hty m hlt8
          have HK := Lib.hid (show ∀ j, j < m + 1 → j = m ∨ j < m from fun j hj => by omega)
          obtain ⟨p, hp⟩ : ∃ p, p = e.inp m := ⟨_, rfl⟩
          rw [← hp] at e0 e1 e2 hok hti
          obtain ⟨x, y, b⟩ := p
          simp only [Gm.In.cells, List.getElem?_cons_zero, List.getElem?_cons_succ, Nat.add_zero] at e0 e1 e2
          dsimp only at hok
          obtain ⟨tx, ty, tb⟩ := hti
          dsimp only at tx ty tb
          have cs := fun X => Lib.hid (refmayin_any x y b X tx.1 ty.1)
          have HP := Lib.hid hp
          have HALL := Lib.hid hall
          have HB2 := Lib.hid hb2
          clear hp hall hb2
          by_cases hi : -127 ≤ x ∧ -127 ≤ y
          · rw [decide_eq_true hi] at cs
            have hnew := Lib.hid (show ∀ j, j < m + 1 → En.inOk (e.inp j) from fun j hj => by
              rcases HK.out j hj with rfl | h
              · rw [← HP.out]; exact hok.2 hi
              · exact HALL.out j h)
            clear hok hi
            go_wp2_with (go_at_call 62; ((with_reducible refine ((cs _).out).mono ?_); rintro r w2 ⟨rfl, hb⟩; have K2 := Lib.hid (HB2.out.trans (hb.mono HB2.out.size)); clear hb))
            go_roundw
            case rel => exact ⟨m + 1, by omega, by go_num, K2.out, hnew.out⟩
            case measure => simp [intOf]; omega
          · rw [decide_eq_false hi] at cs
            have hno := Lib.hid (show ¬ En.Ok e from fun h => hi (by have := h.ins m hlt8; rw [← HP.out] at this; exact this))
            clear hok hi
            go_wp2_with (go_at_call 62; ((with_reducible refine ((cs _).out).mono ?_); rintro r w2 ⟨rfl, hb⟩; have K2 := Lib.hid (KM.out.trans (hb.mono KM.out.size)); clear hb))
            go_ret
            exact ⟨ret_bool (by rw [HV.out]; exact (decide_eq_false hno.out).symm), K2.out⟩
        · have hm8 : ¬ (m : Int) < 8 := by omega
          obtain rfl : m = 8 := by omega
          have hyes := Lib.hid (show En.Ok e from ⟨HF.out, HW.out, hall⟩)
          clear hall hb2
          go_wp2
          go_ret
          exact ⟨ret_bool (by rw [HV.out]; exact (decide_eq_true hyes.out).symm), KM.out⟩
end Go.Proofs.YtiahpncglpfjeaaGreat
namespace Go.Proofs.YtiahpncglpfjeaaGreat
open Go.RowKit Go.Shelf
set_option linter.unusedVariables false
set_option linter.unusedSimpArgs false

theorem few_any (g : Gm.G) (A : Option Addr) (n c : Nat) (w : World) (hn63 : n ≤ maxLen) :
    Calls Tryz.prog 9 #[.agg (Gm.cells g (.slice A n c))] w fun e w' => e = .returned (.bool (decide (n ≤ 60))) ∧ Below w.heap.size w w' := by
  have hc : ∀ W : World, ∀ j, (W.alloc (.cells (Gm.cells g (.slice A n c)) 28)).cell? ⟨W.heap.size, j, none⟩ = (Gm.cells g (.slice A n c))[j]? := fun W j => (Box.made W _ _).cell j
  have h58 := Gm.cells_58 g (.slice A n c)
  have n63 : (n : Int) ≤ 9223372036854775807 := by unfold maxLen at hn63; omega
  have hd : decide (n ≤ 60) = decide ((n : Int) ≤ 60) := by rw [Bool.eq_iff_iff]; simp; omega
  rw [hd]
  go_enter Tryz.func9, Tryz.ntmps9
  go_wp2
  go_ret
  exact ⟨rfl, one_below _ _⟩
end Go.Proofs.YtiahpncglpfjeaaGreat
namespace Go.Proofs.YtiahpncglpfjeaaGreat
open Go.RowKit Go.Shelf
set_option linter.unusedVariables false
set_option linter.unusedSimpArgs false


/-- What lies there while the document does an entry. -/
structure Pa (w : World) (g0 : Gm.G) (s0 : Value) (r0 : Ros.R) (e : En.E) (sl : Value) (Bn : Nat) (g : Gm.G) (s : Value) (r : Ros.R) (W : World) : Prop where
  st : Box W w.heap.size 35 (Im.cells g0 s0 r0)
  en : Box W (w.heap.size + 1) 42 (En.cells e sl)
  out : Box W (w.heap.size + 1 + 1) 35 Im.zero
  nx : Box W Bn 35 (Im.cells g s r)
  far : w.heap.size + 1 + 1 < Bn
  below : Below w.heap.size w W
section
variable {w W W' : World} {g0 g : Gm.G} {s0 s : Value} {r0 r : Ros.R} {e : En.E} {sl : Value} {Bn : Nat}
theorem Pa.call (h : Pa w g0 s0 r0 e sl Bn g s r W) (hb : Below W.heap.size W W') : Pa w g0 s0 r0 e sl Bn g s r W' :=
  ⟨h.st.below hb h.st.lt, h.en.below hb h.en.lt, h.out.below hb h.out.lt, h.nx.below hb h.nx.lt, h.far, h.below.trans (hb.mono h.below.size)⟩
theorem Pa.alloc (h : Pa w g0 s0 r0 e sl Bn g s r W) (o : Obj) : Pa w g0 s0 r0 e sl Bn g s r (W.alloc o) := h.call (one_below W o)
theorem Pa.store {g' : Gm.G} {s' : Value} {r' : Ros.R} (h : Pa w g0 s0 r0 e sl Bn g s r W) : Pa w g0 s0 r0 e sl Bn g' s' r' (W.setRow Bn (Im.cells g' s' r')) :=
  ⟨h.st.row_far (by have := h.far; omega) _, h.en.row_far (by have := h.far; omega) _, h.out.row_far (by have := h.far; omega) _, h.nx.row _, h.far, Below.setRow' h.below (by have := h.far; omega) _⟩
theorem Pa.game {B' : Nat} {cs : Array Value} {c0 : Array Value} (h : Pa w g0 s0 r0 e sl Bn g s r W) (hG : Box W B' 28 c0) (hl : w.heap.size ≤ B') : Pa w g0 s0 r0 e sl Bn g s r (W.setRow B' cs) :=
  ⟨h.st.row_far (Box.apart h.st hG (by decide)) _, h.en.row_far (Box.apart h.en hG (by decide)) _, h.out.row_far (Box.apart h.out hG (by decide)) _, h.nx.row_far (Box.apart h.nx hG (by decide)) _, h.far, Below.setRow' h.below hl _⟩
end
theorem refspawn_out (g : Gm.G) (A : Option Addr) (n c i : Nat) (w : World) (hg : Gm.ok g) (hd : 0 ≤ g.dice ∧ g.dice ≤ 18446744073709551615) (hn : n = g.shots.length) (hr : Lies w w.heap.size 6 A n (Gm.shotCells g.shots)) (hi : i < 8) (ho : (g.ship i).on = false) :
    Calls Tryz.prog 33 #[.agg (Gm.cells g (.slice A n c)), .int .i64 i] w (Out (Gm.spawn g i) 0 w) :=
  (refspawn_yes g A n c i w hg hd hn hr hi ho).mono fun e w' h => ⟨A, c, by rw [h.1, hn]; rfl, by have := hr.call h.2; rw [hn] at this; exact this, h.2⟩
theorem in_neq10 (x y b : Int) (w : World) : (binOp .neq 39 (.agg #[.int .i8 x, .int .i8 y, .int .u8 b]) (.agg #[.int .i8 0, .int .i8 0, .int .u8 0])).run Tryz.prog w = .ok (.bool (!En.zero ⟨x, y, b⟩)) w := by
  have h : (Op.equalIn 10000 39 (.agg #[.int .i8 x, .int .i8 y, .int .u8 b]) (.agg #[.int .i8 0, .int .i8 0, .int .u8 0])).run Tryz.prog w = .ok (En.zero ⟨x, y, b⟩) w := by
    by_cases h1 : x = 0
    · by_cases h2 : y = 0
      · by_cases h3 : b = 0
        · subst h1 h2 h3; go_simp <;> simp [En.zero]
        · have h4 : (b == 0) = false := by simpa using h3
          subst h1 h2; go_simp <;> simp [h4, h3, En.zero]
      · have h4 : (y == 0) = false := by simpa using h2
        subst h1; go_simp <;> simp [h4, h2, En.zero]
    · have h4 : (x == 0) = false := by simpa using h1
      go_simp <;> simp [h4, h1, En.zero]
  generalize #[Value.int .i8 x, .int .i8 y, .int .u8 b] = F at *
  generalize #[Value.int .i8 0, .int .i8 0, .int .u8 0] = G at *
  go_simp
/-- What an entry leaves, to the document. -/
def RefBehind (s : Fd.S) (e : En.E) (w : World) (r : Ending) (w' : World) : Prop :=
  (∃ u, Fd.apply s e = some u ∧ SOut u.g u.r 0 w r w') ∨ (Fd.apply s e = none ∧ SOut s.g s.r 1 w r w')
theorem refbehind_is {s u : Fd.S} {e : En.E} {w w' : World} {r : Ending} (h : Fd.apply s e = some u) (hB : RefBehind s e w r w') : SOut u.g u.r 0 w r w' := by
  unfold RefBehind at hB
  rw [h] at hB
  rcases hB with ⟨v, hv, h2⟩ | ⟨hno, _⟩
  · obtain rfl : u = v := Option.some.inj hv
    exact h2
  · cases hno
theorem refbehind_not {s : Fd.S} {e : En.E} {w w' : World} {r : Ending} (h : Fd.apply s e = none) (hB : RefBehind s e w r w') : SOut s.g s.r 1 w r w' := by
  unfold RefBehind at hB
  rw [h] at hB
  rcases hB with ⟨v, hv, h2⟩ | ⟨_, h2⟩
  · cases hv
  · exact h2
set_option maxRecDepth 100000 in
set_option maxHeartbeats 4000000 in
theorem refapply_may (s : Fd.S) (e : En.E) (A A2 : Option Addr) (n c m c2 : Nat) (w : World) (hty : Gm.ty s.g) (hn63 : n ≤ maxLen) (hn : n = s.g.shots.length) (hr : Lies w w.heap.size 6 A n (Gm.shotCells s.g.shots)) (hm : m = e.evs.length) (hm63 : m ≤ maxLen) (hE : Lies w w.heap.size 4 A2 m (En.evCells e.evs)) (hin : ∀ i, i < 8 → Gm.tyIn (e.inp i)) (hno : ¬ Fd.May s e) :
    Calls Tryz.prog 13 #[.agg (Im.cells s.g (.slice A n c) s.r), .agg (En.cells e (.slice A2 m c2))] w (SOut s.g s.r 1 w) := by
  have B0 := Lib.hid (bh_start w s.g (.slice A n c) s.r e (.slice A2 m c2))
  have L0 := Lib.hid ((hr.below B0.out.below).wider B0.out.below.size)
  have E0 := Lib.hid ((hE.below B0.out.below).wider B0.out.below.size)
  have cm := Lib.hid (refstate_any s.g s.r A n c _ hty hn hn63 L0.out)
  have ce := fun X hX => Lib.hid (refmayen_any e A2 m c2 X hm hm63 hin hX)
  have hN := Lib.hid hn
  by_cases hok : Im.Ok s.g s.r
  · have HOK := Lib.hid hok
    by_cases hen : En.Ok e
    · have hfr : (e.frame != s.g.frame) = true := by simpa using fun h => hno ⟨hok, hen, h⟩
      simp only [decide_eq_true hen] at ce
      have hs0 : (Im.cells s.g (.slice A n c) s.r)[0]? = some (.int .i64 s.g.frame) := (Im.cells_g _ _ _ 0 (by omega)).trans (Gm.cells_0 _ _)
      have he0 := En.cells_0 e (.slice A2 m c2)
      clear hok hen hno hr hn hm hm63 hE hty
      go_enter Tryz.func13, Tryz.ntmps13
      go_wp2_with (first | (with_reducible refine alloc_state rfl rfl ?_) | ((with_reducible refine im_load_state rfl rfl ?_); apply LoadIm.mk rfl; (focus first | (with_reducible exact B0.out.st) | (with_reducible exact B2.out.st)); dsimp only) | (go_at_call 15; ((with_reducible refine ((cm).out).mono ?_); rintro x w1 ⟨⟨v, rfl, hv⟩, hb⟩; obtain rfl : v = true := hv.2 HOK.out; have B1 := Lib.hid (B0.out.call hb); have E1 := Lib.hid ((E0.out.below hb).wider hb.size); have L1 := Lib.hid (L0.out.call hb); clear hb hv)) | ((with_reducible refine en_load_g ?_ rfl ?_); (focus first | rfl | (simp [Region.wanted, yielded]; done)); apply LoadEn.mk rfl; (focus (with_reducible exact B1.out.en)); dsimp only) | (go_at_call 30; ((with_reducible refine ((ce _ E1.out).out).mono ?_); rintro x w2 ⟨rfl, hb⟩; have B2 := Lib.hid (B1.out.call hb); have k2s := B2.out.st.cell 0; have k2e := B2.out.en.cell 0; have L2 := Lib.hid (L1.out.call hb); clear hb)) | ((with_reducible refine im_store_state rfl rfl ?_); apply StoreS.mk rfl rfl; (focus (with_reducible exact B2.out.out)); (focus (exact Im.zero_size)); (focus rfl)))
      have hn := hN.out
      subst hn
      refine bodyPost_ret (v := .tuple #[.agg (Im.cells s.g (.slice A s.g.shots.length c) s.r), .int .i64 1]) ?_ ?_ ?_
      · exact results_cell_tmp (p := 4) (q := 5) rfl _ _ _ _ (Im.cells s.g (.slice A s.g.shots.length c) s.r) _ rfl (Box.row B2.out.out _) Tryz.underlying35 rfl (by rw [Im.cells_size]; exact state_info)
      · rfl
      · exact ⟨A, c, rfl, L2.out.zero_row rfl B2.out.out _, Below.setRow' B2.out.below (by omega) _⟩
    · simp only [decide_eq_false hen] at ce
      clear hok hen hno hr hn hm hm63 hE hty
      go_enter Tryz.func13, Tryz.ntmps13
      go_wp2_with (first | (with_reducible refine alloc_state rfl rfl ?_) | ((with_reducible refine im_load_state rfl rfl ?_); apply LoadIm.mk rfl; (focus first | (with_reducible exact B0.out.st) | (with_reducible exact B2.out.st)); dsimp only) | (go_at_call 15; ((with_reducible refine ((cm).out).mono ?_); rintro x w1 ⟨⟨v, rfl, hv⟩, hb⟩; obtain rfl : v = true := hv.2 HOK.out; have B1 := Lib.hid (B0.out.call hb); have E1 := Lib.hid ((E0.out.below hb).wider hb.size); have L1 := Lib.hid (L0.out.call hb); clear hb hv)) | ((with_reducible refine en_load_g ?_ rfl ?_); (focus first | rfl | (simp [Region.wanted, yielded]; done)); apply LoadEn.mk rfl; (focus (with_reducible exact B1.out.en)); dsimp only) | (go_at_call 30; ((with_reducible refine ((ce _ E1.out).out).mono ?_); rintro x w2 ⟨rfl, hb⟩; have B2 := Lib.hid (B1.out.call hb); have k2s := B2.out.st.cell 0; have k2e := B2.out.en.cell 0; have L2 := Lib.hid (L1.out.call hb); clear hb)) | ((with_reducible refine im_store_state rfl rfl ?_); apply StoreS.mk rfl rfl; (focus (with_reducible exact B2.out.out)); (focus (exact Im.zero_size)); (focus rfl)))
      have hn := hN.out
      subst hn
      refine bodyPost_ret (v := .tuple #[.agg (Im.cells s.g (.slice A s.g.shots.length c) s.r), .int .i64 1]) ?_ ?_ ?_
      · exact results_cell_tmp (p := 4) (q := 5) rfl _ _ _ _ (Im.cells s.g (.slice A s.g.shots.length c) s.r) _ rfl (Box.row B2.out.out _) Tryz.underlying35 rfl (by rw [Im.cells_size]; exact state_info)
      · rfl
      · exact ⟨A, c, rfl, L2.out.zero_row rfl B2.out.out _, Below.setRow' B2.out.below (by omega) _⟩
  · have HOK := Lib.hid hok
    clear hok hno hr hn hm hm63 hE hty
    go_enter Tryz.func13, Tryz.ntmps13
    go_wp2_with (first | (with_reducible refine alloc_state rfl rfl ?_) | ((with_reducible refine im_load_state rfl rfl ?_); apply LoadIm.mk rfl; (focus first | (with_reducible exact B0.out.st) | (with_reducible exact B1.out.st)); dsimp only) | (go_at_call 15; ((with_reducible refine ((cm).out).mono ?_); rintro x w1 ⟨⟨v, rfl, hv⟩, hb⟩; obtain rfl : v = false := (by cases v <;> first | rfl | exact absurd (hv.1 rfl) HOK.out); have B1 := Lib.hid (B0.out.call hb); have E1 := Lib.hid ((E0.out.below hb).wider hb.size); have L1 := Lib.hid (L0.out.call hb); clear hb hv)) | ((with_reducible refine im_store_state rfl rfl ?_); apply StoreS.mk rfl rfl; (focus (with_reducible exact B1.out.out)); (focus (exact Im.zero_size)); (focus rfl)))
    have hn := hN.out
    subst hn
    refine bodyPost_ret (v := .tuple #[.agg (Im.cells s.g (.slice A s.g.shots.length c) s.r), .int .i64 1]) ?_ ?_ ?_
    · exact results_cell_tmp (p := 4) (q := 5) rfl _ _ _ _ (Im.cells s.g (.slice A s.g.shots.length c) s.r) _ rfl (Box.row B1.out.out _) Tryz.underlying35 rfl (by rw [Im.cells_size]; exact state_info)
    · rfl
    · exact ⟨A, c, rfl, L1.out.zero_row rfl B1.out.out _, Below.setRow' B1.out.below (by omega) _⟩

set_option maxRecDepth 100000 in
set_option maxHeartbeats 8000000 in
theorem refapply_go (s : Fd.S) (e : En.E) (A A2 : Option Addr) (n c m c2 : Nat) (w : World) (hty : Gm.ty s.g) (hn63 : n ≤ maxLen) (hn : n = s.g.shots.length) (hr : Lies w w.heap.size 6 A n (Gm.shotCells s.g.shots)) (hm : m = e.evs.length) (hm63 : m ≤ maxLen) (hE : Lies w w.heap.size 4 A2 m (En.evCells e.evs)) (hin : ∀ i, i < 8 → Gm.tyIn (e.inp i)) (hmay : Fd.May s e) :
    Calls Tryz.prog 13 #[.agg (Im.cells s.g (.slice A n c) s.r), .agg (En.cells e (.slice A2 m c2))] w (RefBehind s e w) := by
  have B0 := Lib.hid (bh_start w s.g (.slice A n c) s.r e (.slice A2 m c2))
  have L0 := Lib.hid ((hr.below B0.out.below).wider B0.out.below.size)
  have E0 := Lib.hid ((hE.below B0.out.below).wider B0.out.below.size)
  have cm := Lib.hid (refstate_any s.g s.r A n c _ hty hn hn63 L0.out)
  have ce := fun X hX => Lib.hid (refmayen_any e A2 m c2 X hm hm63 hin hX)
  have hfine : Fd.Fine s := ⟨hmay.1, hty.2.1⟩
  have HF := Lib.hid hfine
  have HM := Lib.hid hmay
  have HE := Lib.hid hE
  have HR := Lib.hid hr
  have hN := Lib.hid hn
  have hMN := Lib.hid hm
  have m63 : (m : Int) ≤ 9223372036854775807 := by unfold maxLen at hm63; omega
  have hfr : (e.frame != s.g.frame) = false := by simpa using hmay.2.2
  simp only [decide_eq_true hmay.2.1] at ce
  have hs0 : (Im.cells s.g (.slice A n c) s.r)[0]? = some (.int .i64 s.g.frame) := (Im.cells_g _ _ _ 0 (by omega)).trans (Gm.cells_0 _ _)
  have he0 := En.cells_0 e (.slice A2 m c2)
  clear hmay hr hn hm hm63 hE hty hfine
  go_enter Tryz.func13, Tryz.ntmps13
  go_upto_region 4 with (first | (with_reducible refine alloc_state rfl rfl ?_) | ((with_reducible refine im_load_state rfl rfl ?_); apply LoadIm.mk rfl; (focus first | (with_reducible exact B0.out.st) | (with_reducible exact B2.out.st)); dsimp only) | (go_at_call 15; ((with_reducible refine ((cm).out).mono ?_); rintro x w1 ⟨⟨v, rfl, hv⟩, hb⟩; obtain rfl : v = true := hv.2 HM.out.1; have B1 := Lib.hid (B0.out.call hb); have E1 := Lib.hid ((E0.out.below hb).wider hb.size); have L1 := Lib.hid (L0.out.call hb); clear hb hv)) | ((with_reducible refine en_load_g ?_ rfl ?_); (focus first | rfl | (simp [Region.wanted, yielded]; done)); apply LoadEn.mk rfl; (focus (with_reducible exact B1.out.en)); dsimp only) | (go_at_call 30; ((with_reducible refine ((ce _ E1.out).out).mono ?_); rintro x w2 ⟨rfl, hb⟩; have B2 := Lib.hid (B1.out.call hb); have k2s := B2.out.st.cell 0; have k2e := B2.out.en.cell 0; have P2 := Lib.hid (show Pa w s.g (.slice A n c) s.r e (.slice A2 m c2) w2.heap.size s.g (.slice A n c) s.r (w2.alloc (.cells (Im.cells s.g (.slice A n c) s.r) 35)) from ⟨B2.out.st.alloc _, B2.out.en.alloc _, B2.out.out.alloc _, Box.made _ _ _, B2.out.out.lt, B2.out.below.alloc B2.out.below.size _⟩); have L2 := Lib.hid ((L1.out.call hb).call (one_below w2 (.cells (Im.cells s.g (.slice A n c) s.r) 35))); clear hb)) | (with_reducible refine im_store_new rfl rfl rfl rfl Im.zero_size rfl ?_))
  clear B0 L0 E0 cm ce B1 E1 L1 B2 k2s k2e hs0 he0 hfr
  have hn := hN.out
  subst hn
  generalize hW2 : w2.alloc (.cells (Im.cells s.g (.slice A s.g.shots.length c) s.r) 35) = W2 at P2 L2 ⊢
  generalize w2.heap.size = Bn at P2 ⊢
  clear hW2
  go_wp2
  go_loopw [7] (fun i wr => ∃ (k : Nat) (t : Fd.S) (A' : Option Addr) (c' : Nat), k ≤ m ∧ i = .int .i64 k ∧ Fd.changes s (e.evs.take k) = some t ∧ Pa w s.g (.slice A s.g.shots.length c) s.r e (.slice A2 m c2) Bn t.g (.slice A' t.g.shots.length c') t.r wr ∧ Lies wr wr.heap.size 6 A' t.g.shots.length (Gm.shotCells t.g.shots)) (fun i _ => m - (intOf i).toNat)
  case atStart => exact ⟨0, s, A, c, Nat.zero_le _, rfl, rfl, P2.out, L2.out⟩
  case round =>
    obtain ⟨k, t, A', c', hk, rfl, hch, hB, hL⟩ := hrel
    clear P2 L2
    have en1 := (hB.en.cell 1).trans (En.cells_1 e (.slice A2 m c2))
    by_cases hlt : k < m
    · have hk8 : (k : Int) < m := by omega
      have hkl : k < e.evs.length := by have := hMN.out; omega
      obtain ⟨ad, rfl, hbl, e0, e1, e2, e3⟩ := evs_at (HE.out.below hB.below) hMN.out k hkl
      have hok := En.row_mem e.evs (-1) HM.out.2.1.row e.evs[k] (List.getElem_mem hkl)
      have hft := (HF.out.changes hch).1
      have hgo := Lib.hid (fun hv : Fd.MayEv t e.evs[k] => Fd.changes_go hkl hch hv)
      have hst := Lib.hid (fun hv : ¬ Fd.MayEv t e.evs[k] => Fd.apply_stop HM.out (Fd.changes_stop hkl hch hv))
      have cy' := fun X (hv : Fd.MayEv t e.evs[k]) => Lib.hid (refevent_yes t e.evs[k] X hv)
      have cn' := fun X (hv : ¬ Fd.MayEv t e.evs[k]) => Lib.hid (refevent_no t e.evs[k] X hok hv)
      have HFT := Lib.hid hft
      generalize hv : e.evs[k] = v at e0 e1 e2 e3 hgo hst cy' cn' hok
      have sz := hB.below.size
      have ltA : ad.block < wr.heap.size := by omega
      have ltP : Bn < wr.heap.size := hB.nx.lt
      have P4 := fun o => Lib.hid (hB.alloc o)
      have L4 := fun o => Lib.hid (hL.call (one_below wr o))
      have V4 := Lib.hid (Box.made wr 61 #[.int .i64 v.kind, .int .i64 v.slot, .int .i64 v.gen, .int .i64 v.peer])
      have r0 := (HR.out.below hB.below)
      have L0 := Lib.hid r0
      clear r0
      by_cases hev : Fd.MayEv t v
      · have cs := fun X => cy' X hev
        have HG := Lib.hid (hgo.out hev)
        clear hgo hst cy' cn' hv hok hch hB hL hft
        rcases hev with ⟨hk1, ht, hg1⟩ | ⟨hk1, ht, hp1, hg1⟩
        · obtain ⟨j, hj8, ej, ej', hpj, ht', hp0⟩ := Fd.take_on ht
          have hau : Fd.after t v = ⟨Gm.spawn t.g j, Ros.take t.r j v.peer⟩ := by unfold Fd.after; rw [if_pos hk1, ej']
          have hoff : (t.g.ship j).on = false := (HFT.out.ok.2.2 j hj8).trans (decide_eq_false (by omega))
          have cg := fun X hX => Lib.hid (refspawn_out t.g A' t.g.shots.length c' j X HFT.out.ok.1 HFT.out.dice rfl hX hj8 hoff)
          rw [hau] at HG
          simp only [hau] at cs
          obtain ⟨vk, vs, vg, vp⟩ := v
          dsimp only at e0 e1 e2 e3 cs hk1 ej V4 HG
          subst hk1 ej
          clear ht ht' hg1 hpj hp0 hau hoff ej'
          generalize hRR : Ros.take t.r j vp = RR at cs HG
          generalize hGG : Gm.spawn t.g j = GG at cg HG
          clear hRR hGG
          go_upto_region 12 with (first | ((with_reducible refine row_load rfl rfl Tryz.underlying61 rfl ?_); apply LoadRow.mk rfl; (focus (with_reducible exact V4.out)); (focus (exact ev4_size))) | ((with_reducible refine im_load_ros rfl rfl ?_); apply LoadIm.mk rfl; (focus (with_reducible exact (P4 _).out.nx)); dsimp only) | (go_at_call 31; ((with_reducible refine ((cs _).out).mono ?_); rintro x w5 ⟨rfl, hb⟩; have P5 := Lib.hid (((P4 _).out.call hb).alloc (.cells (Ros.cells RR) 33)); have V5 := Lib.hid ((V4.out.below hb V4.out.lt).alloc (.cells (Ros.cells RR) 33)); have R5 := Lib.hid (Box.made w5 33 (Ros.cells RR)); have L5 := Lib.hid (((L4 _).out.call hb).call (one_below w5 (.cells (Ros.cells RR) 33))); have P6 := Lib.hid (P5.out.store (g' := t.g) (s' := .slice A' t.g.shots.length c') (r' := RR)); have V6 := Lib.hid (V5.out.row_far (Box.apart V5.out P5.out.nx (by decide)) (Im.cells t.g (.slice A' t.g.shots.length c') RR)); have L6 := Lib.hid (L5.out.state_row rfl P5.out.nx (Im.cells t.g (.slice A' t.g.shots.length c') RR)); clear hb)) | (with_reducible refine ros_alloc rfl rfl ?_) | ((with_reducible refine ros_store_new rfl rfl rfl rfl rfl ?_)) | ((with_reducible refine ros_load rfl rfl ?_); apply LoadRow.mk rfl; (focus (with_reducible exact R5.out)); (focus (exact ros_info))) | ((with_reducible refine im_store_ros rfl rfl ?_); apply StoreR.mk rfl rfl; (focus (with_reducible exact P5.out.nx))))
          generalize hW6 : (w5.alloc (.cells (Ros.cells RR) 33)).setRow Bn (Im.cells t.g (.slice A' t.g.shots.length c') RR) = W6 at P6 V6 L6 ⊢
          clear hW6 P5 V5 L5 R5 P4 V4 L4 cs e0 e1 e2 e3
          have P7 := Lib.hid (P6.out.alloc (.cells (Gm.cells t.g (.slice A' t.g.shots.length c')) 28))
          have V7 := Lib.hid (V6.out.alloc (.cells (Gm.cells t.g (.slice A' t.g.shots.length c')) 28))
          have L7 := Lib.hid (L6.out.call (one_below W6 (.cells (Gm.cells t.g (.slice A' t.g.shots.length c')) 28)))
          have G7 := Lib.hid (Box.made W6 28 (Gm.cells t.g (.slice A' t.g.shots.length c')))
          have z7 := Lib.hid P6.out.below.size
          go_upto_region 13 with (first | ((with_reducible refine im_load_game rfl rfl ?_); apply LoadIm.mk rfl; (focus (with_reducible exact P6.out.nx)); dsimp only) | (refine wpList_alloc_game rfl rfl ?_) | (refine wpList_store_game_new rfl rfl rfl rfl rfl rfl ?_))
          try simp only [World.size_alloc]
          generalize hW7 : W6.alloc (.cells (Gm.cells t.g (.slice A' t.g.shots.length c')) 28) = W7 at P7 V7 L7 G7 ⊢
          generalize W6.heap.size = bg at G7 z7 ⊢
          clear hW7 P6 V6 L6
          have v7 := V7.out.cell
          go_upto_region 16 with (first | ((with_reducible refine load_gate rfl rfl ?_); apply LoadGame.mk rfl; (with_reducible exact G7.out)) | (go_at_call 33; ((with_reducible refine ((cg _ L7.out).out).mono ?_); rintro x w8 ⟨A8, c8, rfl, hL8, hb⟩; have P8 := Lib.hid (P7.out.call hb); have G8 := Lib.hid (G7.out.below hb G7.out.lt); have L8 := Lib.hid hL8; clear hb hL8)) | ((with_reducible refine store_gate rfl rfl ?_); apply StoreGame.mk rfl rfl rfl; (with_reducible exact G8.out)))
          have P9 := Lib.hid (P8.out.game (cs := Gm.cells GG (.slice A8 GG.shots.length c8)) G8.out z7.out)
          have G9 := Lib.hid (G8.out.row (Gm.cells GG (.slice A8 GG.shots.length c8)))
          have L9 := Lib.hid (L8.out.game_row rfl G8.out (Gm.cells GG (.slice A8 GG.shots.length c8)))
          try simp only [World.size_alloc]
          generalize hW9 : w8.setRow bg (Gm.cells GG (.slice A8 GG.shots.length c8)) = W9 at P9 G9 L9 ⊢
          clear hW9 P8 G8 L8 P7 V7 L7 G7 v7 cg
          have P10 := Lib.hid (P9.out.store (g' := GG) (s' := .slice A8 GG.shots.length c8) (r' := RR))
          have L10 := Lib.hid (L9.out.state_row rfl P9.out.nx (Im.cells GG (.slice A8 GG.shots.length c8) RR))
          go_wp2_with (first | ((with_reducible refine load_gate rfl rfl ?_); apply LoadGame.mk rfl; (with_reducible exact G9.out)) | ((with_reducible refine im_store_game rfl rfl ?_); apply StoreG.mk rfl rfl; (focus (with_reducible exact P9.out.nx)); (focus rfl)))
          go_roundw
          case rel => exact ⟨k + 1, ⟨GG, RR⟩, A8, c8, by omega, by go_num, HG.out, P10.out, L10.out⟩
          case measure => simp [intOf]; omega
        · obtain ⟨j, hj8, ej, ej', hpj, ht'⟩ := Fd.give_on ht
          have hau : Fd.after t v = ⟨Gm.remove t.g j, Ros.give t.r j⟩ := by unfold Fd.after; rw [if_neg (by omega), ej']
          have hon : (t.g.ship j).on = true := (HFT.out.ok.2.2 j hj8).trans (decide_eq_true hpj)
          have cg := fun X hX => Lib.hid (refremove_yes t.g A' t.g.shots.length c' j X HFT.out.ok.1 rfl hX hj8 hon)
          rw [hau] at HG
          simp only [hau] at cs
          obtain ⟨vk, vs, vg, vp⟩ := v
          dsimp only at e0 e1 e2 e3 cs hk1 ej V4 HG
          subst hk1 ej
          clear ht ht' hg1 hpj hp1 hau hon ej'
          generalize hRR : Ros.give t.r j = RR at cs HG
          generalize hGG : Gm.remove t.g j = GG at cg HG
          clear hRR hGG
          go_upto_region 12 with (first | ((with_reducible refine row_load rfl rfl Tryz.underlying61 rfl ?_); apply LoadRow.mk rfl; (focus (with_reducible exact V4.out)); (focus (exact ev4_size))) | ((with_reducible refine im_load_ros rfl rfl ?_); apply LoadIm.mk rfl; (focus (with_reducible exact (P4 _).out.nx)); dsimp only) | (go_at_call 31; ((with_reducible refine ((cs _).out).mono ?_); rintro x w5 ⟨rfl, hb⟩; have P5 := Lib.hid (((P4 _).out.call hb).alloc (.cells (Ros.cells RR) 33)); have V5 := Lib.hid ((V4.out.below hb V4.out.lt).alloc (.cells (Ros.cells RR) 33)); have R5 := Lib.hid (Box.made w5 33 (Ros.cells RR)); have L5 := Lib.hid (((L4 _).out.call hb).call (one_below w5 (.cells (Ros.cells RR) 33))); have P6 := Lib.hid (P5.out.store (g' := t.g) (s' := .slice A' t.g.shots.length c') (r' := RR)); have V6 := Lib.hid (V5.out.row_far (Box.apart V5.out P5.out.nx (by decide)) (Im.cells t.g (.slice A' t.g.shots.length c') RR)); have L6 := Lib.hid (L5.out.state_row rfl P5.out.nx (Im.cells t.g (.slice A' t.g.shots.length c') RR)); clear hb)) | (with_reducible refine ros_alloc rfl rfl ?_) | ((with_reducible refine ros_store_new rfl rfl rfl rfl rfl ?_)) | ((with_reducible refine ros_load rfl rfl ?_); apply LoadRow.mk rfl; (focus (with_reducible exact R5.out)); (focus (exact ros_info))) | ((with_reducible refine im_store_ros rfl rfl ?_); apply StoreR.mk rfl rfl; (focus (with_reducible exact P5.out.nx))))
          generalize hW6 : (w5.alloc (.cells (Ros.cells RR) 33)).setRow Bn (Im.cells t.g (.slice A' t.g.shots.length c') RR) = W6 at P6 V6 L6 ⊢
          clear hW6 P5 V5 L5 R5 P4 V4 L4 cs e0 e1 e2 e3
          have P7 := Lib.hid (P6.out.alloc (.cells (Gm.cells t.g (.slice A' t.g.shots.length c')) 28))
          have V7 := Lib.hid (V6.out.alloc (.cells (Gm.cells t.g (.slice A' t.g.shots.length c')) 28))
          have L7 := Lib.hid (L6.out.call (one_below W6 (.cells (Gm.cells t.g (.slice A' t.g.shots.length c')) 28)))
          have G7 := Lib.hid (Box.made W6 28 (Gm.cells t.g (.slice A' t.g.shots.length c')))
          have z7 := Lib.hid P6.out.below.size
          go_upto_region 13 with (first | ((with_reducible refine im_load_game rfl rfl ?_); apply LoadIm.mk rfl; (focus (with_reducible exact P6.out.nx)); dsimp only) | (refine wpList_alloc_game rfl rfl ?_) | (refine wpList_store_game_new rfl rfl rfl rfl rfl rfl ?_))
          try simp only [World.size_alloc]
          generalize hW7 : W6.alloc (.cells (Gm.cells t.g (.slice A' t.g.shots.length c')) 28) = W7 at P7 V7 L7 G7 ⊢
          generalize W6.heap.size = bg at G7 z7 ⊢
          clear hW7 P6 V6 L6
          have v7 := V7.out.cell
          go_upto_region 16 with (first | ((with_reducible refine load_gate rfl rfl ?_); apply LoadGame.mk rfl; (with_reducible exact G7.out)) | (go_at_call 32; ((with_reducible refine ((cg _ L7.out).out).mono ?_); rintro x w8 ⟨A8, c8, rfl, hL8, hb⟩; have P8 := Lib.hid (P7.out.call hb); have G8 := Lib.hid (G7.out.below hb G7.out.lt); have L8 := Lib.hid hL8; clear hb hL8)) | ((with_reducible refine store_gate rfl rfl ?_); apply StoreGame.mk rfl rfl rfl; (with_reducible exact G8.out)))
          have P9 := Lib.hid (P8.out.game (cs := Gm.cells GG (.slice A8 GG.shots.length c8)) G8.out z7.out)
          have G9 := Lib.hid (G8.out.row (Gm.cells GG (.slice A8 GG.shots.length c8)))
          have L9 := Lib.hid (L8.out.game_row rfl G8.out (Gm.cells GG (.slice A8 GG.shots.length c8)))
          try simp only [World.size_alloc]
          generalize hW9 : w8.setRow bg (Gm.cells GG (.slice A8 GG.shots.length c8)) = W9 at P9 G9 L9 ⊢
          clear hW9 P8 G8 L8 P7 V7 L7 G7 v7 cg
          have P10 := Lib.hid (P9.out.store (g' := GG) (s' := .slice A8 GG.shots.length c8) (r' := RR))
          have L10 := Lib.hid (L9.out.state_row rfl P9.out.nx (Im.cells GG (.slice A8 GG.shots.length c8) RR))
          go_wp2_with (first | ((with_reducible refine load_gate rfl rfl ?_); apply LoadGame.mk rfl; (with_reducible exact G9.out)) | ((with_reducible refine im_store_game rfl rfl ?_); apply StoreG.mk rfl rfl; (focus (with_reducible exact P9.out.nx)); (focus rfl)))
          go_roundw
          case rel => exact ⟨k + 1, ⟨GG, RR⟩, A8, c8, by omega, by go_num, HG.out, P10.out, L10.out⟩
          case measure => simp [intOf]; omega
      · have cs := fun X => cn' X hev
        have HG := Lib.hid (hst.out hev)
        obtain ⟨vk, vs, vg, vp⟩ := v
        dsimp only at e0 e1 e2 e3 cs V4
        clear hgo hst cy' cn' hv hev hok hch hB hL hft
        go_wp2_with (first | ((with_reducible refine row_load rfl rfl Tryz.underlying61 rfl ?_); apply LoadRow.mk rfl; (focus (with_reducible exact V4.out)); (focus (exact ev4_size))) | ((with_reducible refine im_load_ros rfl rfl ?_); apply LoadIm.mk rfl; (focus (with_reducible exact (P4 _).out.nx)); dsimp only) | (go_at_call 31; ((with_reducible refine ((cs _).out).mono ?_); rintro x w5 ⟨rfl, hb⟩; have P5 := Lib.hid (((P4 _).out.call hb).alloc (.cells (Ros.cells t.r) 33)); have L5 := Lib.hid (((L0.out.below ((one_below wr _).mono sz)).below (hb.mono (Nat.le_trans sz (one_below wr _).size))).below ((one_below w5 (.cells (Ros.cells t.r) 33)).mono (Nat.le_trans (Nat.le_trans sz (one_below wr _).size) hb.size))); clear hb)) | (with_reducible refine ros_alloc rfl rfl ?_) | ((with_reducible refine ros_store_new rfl rfl rfl rfl rfl ?_)) | ((with_reducible refine im_load_state rfl rfl ?_); apply LoadIm.mk rfl; (focus (with_reducible exact P5.out.st)); dsimp only) | ((with_reducible refine im_store_state rfl rfl ?_); apply StoreS.mk rfl rfl; (focus (with_reducible exact P5.out.out)); (focus (exact Im.zero_size)); (focus rfl)))
        refine bodyPost_ret (v := .tuple #[.agg (Im.cells s.g (.slice A s.g.shots.length c) s.r), .int .i64 1]) ?_ ?_ ?_
        · exact results_cell_tmp (p := 4) (q := 5) rfl _ _ _ _ (Im.cells s.g (.slice A s.g.shots.length c) s.r) _ rfl (Box.row P5.out.out _) Tryz.underlying35 rfl (by rw [Im.cells_size]; exact state_info)
        · rfl
        · exact .inr ⟨HG.out, A, c, rfl, (L5.out.wider P5.out.below.size).zero_row rfl P5.out.out _, Below.setRow' P5.out.below (by omega) _⟩
    · have hk8 : ¬ (k : Int) < m := by omega
      obtain rfl : k = m := by omega
      obtain ⟨k0, hk0⟩ : ∃ k0, k0 = k := ⟨_, rfl⟩
      rw [hMN.out, List.take_length] at hch
      have HC := Lib.hid hch
      rw [← hk0] at hB
      have P3 := Lib.hid hB
      have L3 := Lib.hid hL
      have HT := Lib.hid (HF.out.changes hch)
      clear hch hB hL
      go_wp2
      go_loopw [13] (fun i wr => ∃ k : Nat, k ≤ 8 ∧ i = .int .i64 k ∧ Pa w s.g (.slice A s.g.shots.length c) s.r e (.slice A2 k0 c2) Bn t.g (.slice A' t.g.shots.length c') t.r wr ∧ Lies wr wr.heap.size 6 A' t.g.shots.length (Gm.shotCells t.g.shots) ∧ ∀ j, j < k → t.r.peer j < 0 → En.zero (e.inp j) = true) (fun i _ => 8 - (intOf i).toNat)
      case atStart => exact ⟨0, by omega, rfl, P3.out, L3.out, fun j hj => absurd hj (Nat.not_lt_zero j)⟩
      case round =>
        obtain ⟨k, hk, rfl, hB, hL, hall⟩ := hrel
        clear P3 L3 en1
        by_cases hlt : k < 8
        · have hk8 : (k : Int) < 8 := by omega
          have c0 := (hB.nx.cell (60 + k * 2)).trans (Im.cells_peer t.g _ t.r k hlt)
          have i0 := (hB.en.cell (2 + k * 3)).trans (En.cells_in e _ k 0 hlt (by omega))
          have i1 := (hB.en.cell (2 + k * 3 + 1)).trans (En.cells_in e _ k 1 hlt (by omega))
          have i2 := (hB.en.cell (2 + k * 3 + 2)).trans (En.cells_in e _ k 2 hlt (by omega))
          have hnext := Lib.hid (fun (h : t.r.peer k < 0 → En.zero (e.inp k) = true) => show ∀ j, j < k + 1 → t.r.peer j < 0 → En.zero (e.inp j) = true from fun j hj => by
            by_cases ej : j = k
            · rw [ej]; exact h
            · exact hall j (by omega))
          have hbad := Lib.hid (fun (h : t.r.peer k < 0) (h' : En.zero (e.inp k) = false) => Fd.apply_idle HM.out HC.out (fun hi => by have := hi k hlt h; rw [h'] at this; cases this))
          obtain ⟨p, hp⟩ : ∃ p, p = e.inp k := ⟨_, rfl⟩
          rw [← hp] at i0 i1 i2 hnext hbad
          obtain ⟨x, y, b⟩ := p
          simp only [Gm.In.cells, List.getElem?_cons_zero, List.getElem?_cons_succ, Nat.add_zero] at i0 i1 i2
          have hq := fun W => in_neq10 x y b W
          generalize hzz : En.zero ⟨x, y, b⟩ = z at hq hnext hbad
          obtain ⟨pk, hpk⟩ : ∃ pk, pk = t.r.peer k := ⟨_, rfl⟩
          rw [← hpk] at c0 hnext hbad
          have P5 := Lib.hid hB
          have L5 := Lib.hid hL
          have O5 := Lib.hid ((HR.out.below hB.below).wider hB.below.size)
          clear hp hpk hall hB hL hzz
          by_cases hp0 : pk < 0
          · cases z
            · have hn := Lib.hid (hbad.out hp0 rfl)
              clear hnext hbad
              go_wp2_with (first | ((with_reducible refine im_load_state rfl rfl ?_); apply LoadIm.mk rfl; (focus (with_reducible exact P5.out.st)); dsimp only) | ((with_reducible refine im_store_state rfl rfl ?_); apply StoreS.mk rfl rfl; (focus (with_reducible exact P5.out.out)); (focus (exact Im.zero_size)); (focus rfl)))
              refine bodyPost_ret (v := .tuple #[.agg (Im.cells s.g (.slice A s.g.shots.length c) s.r), .int .i64 1]) ?_ ?_ ?_
              · exact results_cell_tmp (p := 4) (q := 5) rfl _ _ _ _ (Im.cells s.g (.slice A s.g.shots.length c) s.r) _ rfl (Box.row P5.out.out _) Tryz.underlying35 rfl (by rw [Im.cells_size]; exact state_info)
              · rfl
              · exact .inr ⟨hn.out, A, c, rfl, O5.out.zero_row rfl P5.out.out _, Below.setRow' P5.out.below (by omega) _⟩
            · have hn := Lib.hid (hnext.out (fun _ => rfl))
              clear hnext hbad
              go_wp2
              go_roundw
              case rel => exact ⟨k + 1, by omega, by go_num, P5.out, L5.out, hn.out⟩
              case measure => simp [intOf]; omega
          · have hn := Lib.hid (hnext.out (fun h => absurd h hp0))
            clear hnext hbad
            go_wp2
            go_roundw
            case rel => exact ⟨k + 1, by omega, by go_num, P5.out, L5.out, hn.out⟩
            case measure => simp [intOf]; omega
        · have hk8 : ¬ (k : Int) < 8 := by omega
          obtain rfl : k = 8 := by omega
          have HD := Lib.hid (Fd.apply_done HM.out HC.out hall)
          have hstep := fun X hX => Lib.hid (refstep_yes e.inp t.g A' t.g.shots.length c' X HT.out.1.ok.1 (by have := HT.out.2; have := HM.out.2.1.frame; have := HM.out.2.2; omega) HT.out.1.dice hin rfl hX)
          have P6 := Lib.hid hB
          have L6 := Lib.hid hL
          generalize hG : Gm.step e.inp t.g = G at hstep HD
          clear hall hB hL hG
          go_upto_region 25 with (first | ((with_reducible refine im_load_game rfl rfl ?_); apply LoadIm.mk rfl; (focus (with_reducible exact P6.out.nx)); dsimp only) | ((with_reducible refine en_load_ins rfl rfl ?_); apply LoadEn.mk rfl; (focus (with_reducible exact P6.out.en)); dsimp only) | (go_at_call 34; ((with_reducible refine ((hstep _ L6.out).out).mono ?_); rintro x w7 ⟨A7, c7, rfl, hL, hb⟩; have P7 := Lib.hid ((P6.out.call hb).alloc (.cells (Gm.cells G (.slice A7 G.shots.length c7)) 28)); have L7 := Lib.hid (hL.call (one_below w7 (.cells (Gm.cells G (.slice A7 G.shots.length c7)) 28))); have G7 := Lib.hid (Box.made w7 28 (Gm.cells G (.slice A7 G.shots.length c7))); have P9 := Lib.hid (P7.out.store (g' := G) (s' := .slice A7 G.shots.length c7) (r' := t.r)); have L9 := Lib.hid (L7.out.state_row rfl P7.out.nx (Im.cells G (.slice A7 G.shots.length c7) t.r)); clear hb hL)) | (refine wpList_alloc_game rfl rfl ?_) | (refine wpList_store_game_new rfl rfl rfl rfl rfl rfl ?_))
          go_wp2_with (first | ((with_reducible refine load_gate rfl rfl ?_); apply LoadGame.mk rfl; (with_reducible exact G7.out)) | ((with_reducible refine im_store_game rfl rfl ?_); apply StoreG.mk rfl rfl; (focus (with_reducible exact P7.out.nx)); (focus rfl)) | ((with_reducible refine im_load_state rfl rfl ?_); apply LoadIm.mk rfl; (focus (with_reducible exact P9.out.nx)); dsimp only) | ((with_reducible refine im_store_state rfl rfl ?_); apply StoreS.mk rfl rfl; (focus (with_reducible exact P9.out.out)); (focus (exact Im.zero_size)); (focus rfl)))
          refine bodyPost_ret (v := .tuple #[.agg (Im.cells G (.slice A7 G.shots.length c7) t.r), .int .i64 0]) ?_ ?_ ?_
          · exact results_cell_tmp (p := 4) (q := 5) rfl _ _ _ _ (Im.cells G (.slice A7 G.shots.length c7) t.r) _ rfl (Box.row P9.out.out _) Tryz.underlying35 rfl (by rw [Im.cells_size]; exact state_info)
          · rfl
          · exact .inl ⟨_, HD.out, A7, c7, rfl, L9.out.zero_row rfl P9.out.out _, Below.setRow' P9.out.below (by omega) _⟩
theorem refapply_some (s u : Fd.S) (e : En.E) (A A2 : Option Addr) (n c m c2 : Nat) (w : World) (hty : Gm.ty s.g) (hn63 : n ≤ maxLen) (hn : n = s.g.shots.length) (hr : Lies w w.heap.size 6 A n (Gm.shotCells s.g.shots)) (hm : m = e.evs.length) (hm63 : m ≤ maxLen) (hE : Lies w w.heap.size 4 A2 m (En.evCells e.evs)) (hin : ∀ i, i < 8 → Gm.tyIn (e.inp i)) (h : Fd.apply s e = some u) :
    Calls Tryz.prog 13 #[.agg (Im.cells s.g (.slice A n c) s.r), .agg (En.cells e (.slice A2 m c2))] w (SOut u.g u.r 0 w) :=
  (refapply_go s e A A2 n c m c2 w hty hn63 hn hr hm hm63 hE hin (Fd.apply_some h).1).mono fun r w' hB => refbehind_is h hB
theorem refapply_none (s : Fd.S) (e : En.E) (A A2 : Option Addr) (n c m c2 : Nat) (w : World) (hty : Gm.ty s.g) (hn63 : n ≤ maxLen) (hn : n = s.g.shots.length) (hr : Lies w w.heap.size 6 A n (Gm.shotCells s.g.shots)) (hm : m = e.evs.length) (hm63 : m ≤ maxLen) (hE : Lies w w.heap.size 4 A2 m (En.evCells e.evs)) (hin : ∀ i, i < 8 → Gm.tyIn (e.inp i)) (h : Fd.apply s e = none) :
    Calls Tryz.prog 13 #[.agg (Im.cells s.g (.slice A n c) s.r), .agg (En.cells e (.slice A2 m c2))] w (SOut s.g s.r 1 w) := by
  by_cases hmay : Fd.May s e
  · exact (refapply_go s e A A2 n c m c2 w hty hn63 hn hr hm hm63 hE hin hmay).mono fun r w' hB => refbehind_not h hB
  · exact refapply_may s e A A2 n c m c2 w hty hn63 hn hr hm hm63 hE hin hmay
end Go.Proofs.YtiahpncglpfjeaaGreat
namespace Go.Proofs.YtiahpncglpfjeaaGreat
open Go.RowKit Go.Shelf
set_option linter.unusedVariables false
set_option linter.unusedSimpArgs false


section
variable {ops : Array Oper} {rest : List Oper} {o : Oper} {a : Act} {w : World} {Q : Exit → Act → World → Prop} {x : Operand}
theorem fq_load_game_g (hw : Region.wanted o (yielded ops a.tmps) = true) (ho : o.op = .load 28 x) (h : LoadIm ops Q rest o.dst (a.eval x) 0 (fun g s _ => Gm.cells g s) a w) : wpList Tryz.prog ops Q (o :: rest) a w := by
  obtain ⟨B, g, s, r, hx, hB, h⟩ := h
  refine wpList_load_part_g hw ho hx hB (Gm.cells g s).toList (fun j v hv => ?_) Tryz.underlying28 rfl game_info h
  have hj : j < 59 := (List.getElem?_eq_some_iff.1 hv).1
  rw [Nat.zero_add, Im.cells_g _ _ _ j hj]
  simpa using hv
end
theorem fq_few (e : En.E) (A : Option Addr) (n c : Nat) (w : World) : Calls Tryz.prog 10 #[.agg (En.cells e (.slice A n c))] w fun r w' => r = .returned (.bool (decide ((n : Int) ≤ 20))) ∧ Below w.heap.size w w' := by
  have P0 := Lib.hid (Box.made w 42 (En.cells e (.slice A n c)))
  have c1 := P0.out.cell 1
  rw [En.cells_1] at c1
  go_enter Tryz.func10, Tryz.ntmps10
  go_wp2
  go_ret
  exact ⟨rfl, one_below _ _⟩
theorem fq_state {B0 : Nat} {W : World} {o : Oper} {a : Act} {K : Act → Prop} {B : Nat} {g : Gm.G} {s : Value} {r : Ros.R} {x : Operand} (ho : o.op = .load 35 x) (hx : a.eval x = .pointer (some ⟨B, 0, none⟩)) (hB : ∀ q : Ext B0 W, Box q.w B 35 (Im.cells g s r)) (h : K (a.put o.dst (.agg (Im.cells g s r)))) :
    o.quiet Tryz.prog a (fun w' => ∃ q : Ext B0 W, w' = q.w) K :=
  ⟨_, fun w hw => by obtain ⟨q, e'⟩ := hw; subst e'; unfold Oper.quietAt; rw [exec_load_blk ho hx (hB q) Tryz.underlying35 rfl (by rw [Im.cells_size]; exact state_info)]; exact ⟨rfl, rfl⟩, h⟩
open Classical in
theorem iff_dec {v : Bool} {p : Prop} (h : v = true ↔ p) : v = decide p := by
  cases v
  · exact (decide_eq_false (fun k => by have := h.2 k; cases this)).symm
  · exact (decide_eq_true (h.1 rfl)).symm
set_option maxRecDepth 100000 in
set_option maxHeartbeats 4000000 in
theorem asks10_told (s t : Fd.S) (e : En.E) (A B AE : Option Addr) (n m l c d ce : Nat) (w : World) (hn : n = s.g.shots.length) (hm : m = t.g.shots.length) (hl : l = e.evs.length) (hn63 : n ≤ maxLen) (hm63 : m ≤ maxLen) (hl63 : l ≤ maxLen) (hs : Gm.ty s.g) (ht : Gm.ty t.g) (hin : ∀ i, i < 8 → Gm.tyIn (e.inp i)) (hr : Lies w w.heap.size 6 A n (Gm.shotCells s.g.shots)) (hq : Lies w w.heap.size 6 B m (Gm.shotCells t.g.shots)) (hE : Lies w w.heap.size 4 AE l (En.evCells e.evs)) (hno : ¬ (n ≤ 60 ∧ m ≤ 60 ∧ l ≤ 20)) :
    Calls Tryz.prog 3 #[.agg (Im.cells s.g (.slice A n c) s.r), .agg (Im.cells t.g (.slice B m d) t.r), .agg (En.cells e (.slice AE l ce))] w fun r w' => r = .returned (.bool true) ∧ Below w.heap.size w w' := by
  have P0 := Lib.hid (((Box.made w 35 (Im.cells s.g (.slice A n c) s.r)).alloc (.cells (Im.cells t.g (.slice B m d) t.r) 35)).alloc (.cells (En.cells e (.slice AE l ce)) 42))
  have Q0 := Lib.hid ((Box.made_at (n := w.heap.size + 1) (w.alloc (.cells (Im.cells s.g (.slice A n c) s.r) 35)) 35 (Im.cells t.g (.slice B m d) t.r) (by simp)).alloc (.cells (En.cells e (.slice AE l ce)) 42))
  have E0 := Lib.hid (Box.made_at (n := w.heap.size + 1 + 1) ((w.alloc (.cells (Im.cells s.g (.slice A n c) s.r) 35)).alloc (.cells (Im.cells t.g (.slice B m d) t.r) 35)) 42 (En.cells e (.slice AE l ce)) (by simp))
  have K0 := Lib.hid ((two_below' w (.cells (Im.cells s.g (.slice A n c) s.r) 35) (.cells (Im.cells t.g (.slice B m d) t.r) 35)).alloc (by simp <;> omega) (.cells (En.cells e (.slice AE l ce)) 42))
  have ct := fun X => Lib.hid (told10_any X)
  have cf := fun X => Lib.hid (few_any s.g A n c X hn63)
  have cg := fun X => Lib.hid (few_any t.g B m d X hm63)
  have ch := fun X => Lib.hid (fq_few e AE l ce X)
  clear hr hq hE hs ht hin hn hm hl
  by_cases h1 : n ≤ 60
  · simp only [decide_eq_true h1] at cf
    by_cases h2 : m ≤ 60
    · simp only [decide_eq_true h2] at cg
      have h3 : ¬ (l : Int) ≤ 20 := by omega
      simp only [decide_eq_false h3] at ch
      clear hno h1 h2 h3
      go_enter Tryz.func3, Tryz.ntmps3
      go_wp2_with (first | ((with_reducible refine im_load_game rfl rfl ?_); apply LoadIm.mk rfl; (focus (with_reducible exact P0.out)); dsimp only) | (go_at_call 9; ((with_reducible refine ((cf _).out).mono ?_); rintro x w1 ⟨rfl, hb⟩; have P1 := Lib.hid (P0.out.below hb P0.out.lt); have Q1 := Lib.hid (Q0.out.below hb Q0.out.lt); have E1 := Lib.hid (E0.out.below hb E0.out.lt); have K1 := Lib.hid (K0.out.trans (hb.mono K0.out.size)); clear hb cf)) | ((with_reducible refine fq_load_game_g ?_ rfl ?_); (focus first | rfl | (simp [Region.wanted, yielded]; done)); apply LoadIm.mk rfl; (focus first | (with_reducible exact Q1.out)); dsimp only) | (go_at_call 9; ((with_reducible refine ((cg _).out).mono ?_); rintro x w2 ⟨rfl, hb⟩; have P2 := Lib.hid (P1.out.below hb P1.out.lt); have Q2 := Lib.hid (Q1.out.below hb Q1.out.lt); have E2 := Lib.hid (E1.out.below hb E1.out.lt); have K2 := Lib.hid (K1.out.trans (hb.mono K1.out.size)); clear hb cg)) | ((with_reducible refine en_load_g ?_ rfl ?_); (focus first | rfl | (simp [Region.wanted, yielded]; done)); apply LoadEn.mk rfl; (focus (with_reducible exact E2.out)); dsimp only) | (go_at_call 10; ((with_reducible refine ((ch _).out).mono ?_); rintro x w3 ⟨rfl, hb⟩; have P3 := Lib.hid (P2.out.below hb P2.out.lt); have Q3 := Lib.hid (Q2.out.below hb Q2.out.lt); have E3 := Lib.hid (E2.out.below hb E2.out.lt); have K3 := Lib.hid (K2.out.trans (hb.mono K2.out.size)); clear hb ch)) | (go_at_call 11; ((with_reducible refine ((ct _).out).mono ?_); rintro x w9 ⟨rfl, hb⟩; have K9 := Lib.hid (K3.out.trans (hb.mono K3.out.size)); clear hb)))
      go_ret
      exact ⟨rfl, K9.out⟩
    · simp only [decide_eq_false h2] at cg
      clear hno h1 h2
      go_enter Tryz.func3, Tryz.ntmps3
      go_wp2_with (first | ((with_reducible refine im_load_game rfl rfl ?_); apply LoadIm.mk rfl; (focus (with_reducible exact P0.out)); dsimp only) | (go_at_call 9; ((with_reducible refine ((cf _).out).mono ?_); rintro x w1 ⟨rfl, hb⟩; have P1 := Lib.hid (P0.out.below hb P0.out.lt); have Q1 := Lib.hid (Q0.out.below hb Q0.out.lt); have E1 := Lib.hid (E0.out.below hb E0.out.lt); have K1 := Lib.hid (K0.out.trans (hb.mono K0.out.size)); clear hb cf)) | ((with_reducible refine fq_load_game_g ?_ rfl ?_); (focus first | rfl | (simp [Region.wanted, yielded]; done)); apply LoadIm.mk rfl; (focus first | (with_reducible exact Q1.out)); dsimp only) | (go_at_call 9; ((with_reducible refine ((cg _).out).mono ?_); rintro x w2 ⟨rfl, hb⟩; have P2 := Lib.hid (P1.out.below hb P1.out.lt); have Q2 := Lib.hid (Q1.out.below hb Q1.out.lt); have E2 := Lib.hid (E1.out.below hb E1.out.lt); have K2 := Lib.hid (K1.out.trans (hb.mono K1.out.size)); clear hb cg)) | (go_at_call 11; ((with_reducible refine ((ct _).out).mono ?_); rintro x w9 ⟨rfl, hb⟩; have K9 := Lib.hid (K2.out.trans (hb.mono K2.out.size)); clear hb)))
      go_ret
      exact ⟨rfl, K9.out⟩
  · simp only [decide_eq_false h1] at cf
    clear hno h1
    go_enter Tryz.func3, Tryz.ntmps3
    go_wp2_with (first | ((with_reducible refine im_load_game rfl rfl ?_); apply LoadIm.mk rfl; (focus (with_reducible exact P0.out)); dsimp only) | (go_at_call 9; ((with_reducible refine ((cf _).out).mono ?_); rintro x w1 ⟨rfl, hb⟩; have P1 := Lib.hid (P0.out.below hb P0.out.lt); have Q1 := Lib.hid (Q0.out.below hb Q0.out.lt); have E1 := Lib.hid (E0.out.below hb E0.out.lt); have K1 := Lib.hid (K0.out.trans (hb.mono K0.out.size)); clear hb cf)) | (go_at_call 11; ((with_reducible refine ((ct _).out).mono ?_); rintro x w9 ⟨rfl, hb⟩; have K9 := Lib.hid (K1.out.trans (hb.mono K1.out.size)); clear hb)))
    go_ret
    exact ⟨rfl, K9.out⟩

set_option maxRecDepth 100000 in
set_option maxHeartbeats 8000000 in
theorem asks10_main (s t : Fd.S) (e : En.E) (A B AE : Option Addr) (n m l c d ce : Nat) (w : World) (hn : n = s.g.shots.length) (hm : m = t.g.shots.length) (hl : l = e.evs.length) (hn63 : n ≤ maxLen) (hm63 : m ≤ maxLen) (hl63 : l ≤ maxLen) (hs : Gm.ty s.g) (ht : Gm.ty t.g) (hin : ∀ i, i < 8 → Gm.tyIn (e.inp i)) (hr : Lies w w.heap.size 6 A n (Gm.shotCells s.g.shots)) (hq : Lies w w.heap.size 6 B m (Gm.shotCells t.g.shots)) (hE : Lies w w.heap.size 4 AE l (En.evCells e.evs)) (h1 : n ≤ 60) (h2 : m ≤ 60) (h3 : l ≤ 20) (ga : Gm.G) (ra : Ros.R) (z : Int) (g60 : ga.shots.length ≤ 60)
    (ca : ∀ X, Below w.heap.size w X → Hid (Calls Tryz.prog 12 #[.agg (Im.cells s.g (.slice A n c) s.r), .agg (En.cells e (.slice AE l ce))] X (SOut ga ra z X))) (cb : ∀ X, Below w.heap.size w X → Hid (Calls Tryz.prog 13 #[.agg (Im.cells s.g (.slice A n c) s.r), .agg (En.cells e (.slice AE l ce))] X (SOut ga ra z X))) :
    Calls Tryz.prog 3 #[.agg (Im.cells s.g (.slice A n c) s.r), .agg (Im.cells t.g (.slice B m d) t.r), .agg (En.cells e (.slice AE l ce))] w fun r w' => r = .returned (.bool true) ∧ Below w.heap.size w w' := by
  have P0 := Lib.hid (((Box.made w 35 (Im.cells s.g (.slice A n c) s.r)).alloc (.cells (Im.cells t.g (.slice B m d) t.r) 35)).alloc (.cells (En.cells e (.slice AE l ce)) 42))
  have Q0 := Lib.hid ((Box.made_at (n := w.heap.size + 1) (w.alloc (.cells (Im.cells s.g (.slice A n c) s.r) 35)) 35 (Im.cells t.g (.slice B m d) t.r) (by simp)).alloc (.cells (En.cells e (.slice AE l ce)) 42))
  have E0 := Lib.hid (Box.made_at (n := w.heap.size + 1 + 1) ((w.alloc (.cells (Im.cells s.g (.slice A n c) s.r) 35)).alloc (.cells (Im.cells t.g (.slice B m d) t.r) 35)) 42 (En.cells e (.slice AE l ce)) (by simp))
  have K0 := Lib.hid ((two_below' w (.cells (Im.cells s.g (.slice A n c) s.r) 35) (.cells (Im.cells t.g (.slice B m d) t.r) 35)).alloc (by simp <;> omega) (.cells (En.cells e (.slice AE l ce)) 42))
  have ct := fun X => Lib.hid (told10_any X)
  have cf := fun X => Lib.hid (few_any s.g A n c X hn63)
  have cg := fun X => Lib.hid (few_any t.g B m d X hm63)
  have ch := fun X => Lib.hid (fq_few e AE l ce X)
  have LS := fun X (k : Below w.heap.size w X) => (hr.below k).wider k.size
  have LT := fun X (k : Below w.heap.size w X) => (hq.below k).wider k.size
  obtain ⟨b1, hb1⟩ : ∃ b : Bool, b = @decide (Im.Ok s.g s.r) (Classical.propDecidable _) := ⟨_, rfl⟩
  obtain ⟨b2, hb2⟩ : ∃ b : Bool, b = @decide (Gm.Eq s.g t.g ∧ s.r.version = t.r.version ∧ ∀ k, k < 8 → s.r.peer k = t.r.peer k ∧ s.r.gen k = t.r.gen k) (Classical.propDecidable _) := ⟨_, rfl⟩
  have CM := Lib.hid (fun X (k : Below w.heap.size w X) => (foldmay_any s.g s.r A n c X hs hn63 hn (LS X k)).mono fun r w' h => show r = .returned (.bool b1) ∧ Below X.heap.size X w' from ⟨by obtain ⟨⟨v, e1, e2⟩, _⟩ := h; rw [e1, hb1, iff_dec e2], h.2⟩)
  have CR := Lib.hid (fun X (k : Below w.heap.size w X) => (refstate_any s.g s.r A n c X hs hn hn63 (LS X k)).mono fun r w' h => show r = .returned (.bool b1) ∧ Below X.heap.size X w' from ⟨by obtain ⟨⟨v, e1, e2⟩, _⟩ := h; rw [e1, hb1, iff_dec e2], h.2⟩)
  have CS := Lib.hid (fun X (k : Below w.heap.size w X) => (foldsame_any s.g t.g s.r t.r A B n m c d X hn hm (LS X k) (LT X k) hn63 hm63).mono fun r w' h => show r = .returned (.bool b2) ∧ Below X.heap.size X w' from ⟨by obtain ⟨⟨v, e1, e2⟩, _⟩ := h; rw [e1, hb2, iff_dec e2], h.2⟩)
  have CT := Lib.hid (fun X (k : Below w.heap.size w X) => (refsamest_any s.g t.g s.r t.r A B n m c d X hn hm (LS X k) (LT X k) hn63 hm63).mono fun r w' h => show r = .returned (.bool b2) ∧ Below X.heap.size X w' from ⟨by obtain ⟨⟨v, e1, e2⟩, _⟩ := h; rw [e1, hb2, iff_dec e2], h.2⟩)
  have CU := Lib.hid (fun X (k : Below w.heap.size w X) => (foldsame_any s.g s.g s.r s.r A A n n c c X hn hn (LS X k) (LS X k) hn63 hn63).mono fun r w' h => show r = .returned (.bool true) ∧ Below X.heap.size X w' from ⟨by obtain ⟨⟨v, e1, e2⟩, _⟩ := h; obtain rfl : v = true := e2.2 ⟨Gm.Eq.refl _, rfl, fun _ _ => ⟨rfl, rfl⟩⟩; exact e1, h.2⟩)
  simp only [decide_eq_true h1] at cf
  simp only [decide_eq_true h2] at cg
  simp only [decide_eq_true (show (l : Int) ≤ 20 by omega)] at ch
  have g63 : ga.shots.length ≤ maxLen := by unfold maxLen; omega
  clear hb1 hb2 LS LT hr hq hE hs ht hin hn hm hl h1 h2 h3
  go_enter Tryz.func3, Tryz.ntmps3
  go_upto_region 5 with (first | ((with_reducible refine im_load_game rfl rfl ?_); apply LoadIm.mk rfl; (focus (with_reducible exact P0.out)); dsimp only) | (go_at_call 9; ((with_reducible refine ((cf _).out).mono ?_); rintro x w1 ⟨rfl, hb⟩; have P1 := Lib.hid (P0.out.below hb P0.out.lt); have Q1 := Lib.hid (Q0.out.below hb Q0.out.lt); have E1 := Lib.hid (E0.out.below hb E0.out.lt); have K1 := Lib.hid (K0.out.trans (hb.mono K0.out.size)); clear hb cf)) | ((with_reducible refine fq_load_game_g ?_ rfl ?_); (focus first | rfl | (simp [Region.wanted, yielded]; done)); apply LoadIm.mk rfl; (focus first | (with_reducible exact Q1.out)); dsimp only) | (go_at_call 9; ((with_reducible refine ((cg _).out).mono ?_); rintro x w2 ⟨rfl, hb⟩; have P2 := Lib.hid (P1.out.below hb P1.out.lt); have Q2 := Lib.hid (Q1.out.below hb Q1.out.lt); have E2 := Lib.hid (E1.out.below hb E1.out.lt); have K2 := Lib.hid (K1.out.trans (hb.mono K1.out.size)); clear hb cg)) | ((with_reducible refine en_load_g ?_ rfl ?_); (focus first | rfl | (simp [Region.wanted, yielded]; done)); apply LoadEn.mk rfl; (focus (with_reducible exact E2.out)); dsimp only) | (go_at_call 10; ((with_reducible refine ((ch _).out).mono ?_); rintro x w3 ⟨rfl, hb⟩; have P3 := Lib.hid (P2.out.below hb P2.out.lt); have Q3 := Lib.hid (Q2.out.below hb Q2.out.lt); have E3 := Lib.hid (E2.out.below hb E2.out.lt); have K3 := Lib.hid (K2.out.trans (hb.mono K2.out.size)); clear hb ch)) | ((with_reducible refine im_load_state rfl rfl ?_); apply LoadIm.mk rfl; (focus first | (with_reducible exact P3.out) | (with_reducible exact P4.out)); dsimp only) | ((with_reducible refine en_load rfl rfl ?_); apply LoadEn.mk rfl; (focus first | (with_reducible exact E3.out) | (with_reducible exact E4.out)); dsimp only) | (go_at_call 12; ((with_reducible refine ((ca _ K3.out).out).mono ?_); rintro x w4 ⟨A4, c4, rfl, hL, hb⟩; have P4 := Lib.hid ((P3.out.below hb P3.out.lt).alloc (.cells (Im.cells ga (.slice A4 ga.shots.length c4) ra) 35)); have Q4 := Lib.hid ((Q3.out.below hb Q3.out.lt).alloc (.cells (Im.cells ga (.slice A4 ga.shots.length c4) ra) 35)); have E4 := Lib.hid ((E3.out.below hb E3.out.lt).alloc (.cells (Im.cells ga (.slice A4 ga.shots.length c4) ra) 35)); have K4 := Lib.hid ((K3.out.trans (hb.mono K3.out.size)).alloc (Nat.le_trans K3.out.size hb.size) (.cells (Im.cells ga (.slice A4 ga.shots.length c4) ra) 35)); have M4 := Lib.hid (Box.made w4 35 (Im.cells ga (.slice A4 ga.shots.length c4) ra)); have L4 := Lib.hid (hL.call (one_below w4 (.cells (Im.cells ga (.slice A4 ga.shots.length c4) ra) 35))); clear hb hL)) | (go_at_call 13; ((with_reducible refine ((cb _ K4.out).out).mono ?_); rintro x w5 ⟨A5, c5, rfl, hL, hb⟩; have P5 := Lib.hid ((P4.out.below hb P4.out.lt).alloc (.cells (Im.cells ga (.slice A5 ga.shots.length c5) ra) 35)); have Q5 := Lib.hid ((Q4.out.below hb Q4.out.lt).alloc (.cells (Im.cells ga (.slice A5 ga.shots.length c5) ra) 35)); have K5 := Lib.hid ((K4.out.trans (hb.mono K4.out.size)).alloc (Nat.le_trans K4.out.size hb.size) (.cells (Im.cells ga (.slice A5 ga.shots.length c5) ra) 35)); have M5 := Lib.hid ((M4.out.below hb M4.out.lt).alloc (.cells (Im.cells ga (.slice A5 ga.shots.length c5) ra) 35)); have N5 := Lib.hid (Box.made w5 35 (Im.cells ga (.slice A5 ga.shots.length c5) ra)); have L5 := Lib.hid ((L4.out.call hb).call (one_below w5 (.cells (Im.cells ga (.slice A5 ga.shots.length c5) ra) 35))); have O5 := Lib.hid (hL.call (one_below w5 (.cells (Im.cells ga (.slice A5 ga.shots.length c5) ra) 35))); clear hb hL)) | (with_reducible refine alloc_state rfl rfl ?_) | (with_reducible refine im_store_new rfl rfl rfl rfl Im.zero_size rfl ?_))
  generalize w5.alloc (.cells (Im.cells ga (.slice A5 ga.shots.length c5) ra) 35) = W5 at P5 Q5 K5 M5 N5 L5 O5 ⊢
  clear P0 Q0 E0 K0 P1 Q1 E1 K1 P2 Q2 E2 K2 P3 Q3 E3 K3 P4 Q4 E4 K4 M4 L4 ca cb
  have Z1 := Lib.hid (fun q : Ext W5.heap.size W5 => (CM.out q.w (K5.out.trans (q.h.mono K5.out.size))))
  have Z2 := Lib.hid (fun q : Ext W5.heap.size W5 => (CR.out q.w (K5.out.trans (q.h.mono K5.out.size))))
  have Z3 := Lib.hid (fun q : Ext W5.heap.size W5 => (CS.out q.w (K5.out.trans (q.h.mono K5.out.size))))
  have Z4 := Lib.hid (fun q : Ext W5.heap.size W5 => (CT.out q.w (K5.out.trans (q.h.mono K5.out.size))))
  have Z5 := Lib.hid (fun q : Ext W5.heap.size W5 => (CU.out q.w (K5.out.trans (q.h.mono K5.out.size))))
  have Z6 := Lib.hid (fun q : Ext W5.heap.size W5 => (refsamest_any ga ga ra ra A4 A5 ga.shots.length ga.shots.length c4 c5 q.w rfl rfl ((L5.out.below q.h).wider q.h.size) ((O5.out.below q.h).wider q.h.size) g63 g63).mono (fun r' w' h => show r' = .returned (.bool true) ∧ Below q.w.heap.size q.w w' by obtain ⟨⟨v, h1, h2⟩, h3⟩ := h; obtain rfl : v = true := h2.2 ⟨Gm.Eq.refl ga, rfl, fun _ _ => ⟨rfl, rfl⟩⟩; exact ⟨h1, h3⟩))
  have ZP := Lib.hid (fun q : Ext W5.heap.size W5 => P5.out.below q.h P5.out.lt)
  have ZQ := Lib.hid (fun q : Ext W5.heap.size W5 => Q5.out.below q.h Q5.out.lt)
  have ZM := Lib.hid (fun q : Ext W5.heap.size W5 => M5.out.below q.h M5.out.lt)
  have ZN := Lib.hid (fun q : Ext W5.heap.size W5 => N5.out.below q.h N5.out.lt)
  refine wp_region_ext W5.heap.size W5 (by kernel_rfl) (by kernel_rfl) (Below.refl _ _) ?_
  repeat (first | (go_big_quiet_want; (first | (refine fq_state rfl rfl ZP.out ?_) | (refine fq_state rfl rfl ZQ.out ?_) | (refine fq_state rfl rfl ZM.out ?_) | (refine fq_state rfl rfl ZN.out ?_)); simp only [Act.put, List.setIfInBounds_toArray, List.set_cons_succ, List.set_cons_zero]; go_big_quiet_on) | go_big_quiet_step ((first | (go_at_call 11; with_reducible exact Calls.ext_of (Nat.le_refl _) ((ct _).out)) | (go_at_call 14; with_reducible exact Calls.ext_of (Nat.le_refl _) (Z1.out _)) | (go_at_call 15; with_reducible exact Calls.ext_of (Nat.le_refl _) (Z2.out _)) | (go_at_call 17; first | with_reducible exact Calls.ext_of (Nat.le_refl _) (Z3.out _) | with_reducible exact Calls.ext_of (Nat.le_refl _) (Z5.out _)) | (go_at_call 16; first | with_reducible exact Calls.ext_of (Nat.le_refl _) (Z4.out _) | with_reducible exact Calls.ext_of (Nat.le_refl _) (Z6.out _)))))
  refine wpQuiet_nil ?_
  intro _ hw'
  obtain ⟨q9, hw''⟩ := hw'
  subst hw''
  have K9 := Lib.hid (K5.out.trans (q9.h.mono K5.out.size))
  clear Z1 Z2 Z3 Z4 Z5 Z6 ZP ZQ ZM ZN
  go_wp2
  go_ret
  exact ⟨ret_bool (by simp), K9.out⟩
theorem asks10_law (s t : Fd.S) (e : En.E) (A B AE : Option Addr) (n m l c d ce : Nat) (w : World) (hn : n = s.g.shots.length) (hm : m = t.g.shots.length) (hl : l = e.evs.length) (hn63 : n ≤ maxLen) (hm63 : m ≤ maxLen) (hl63 : l ≤ maxLen) (hs : Gm.ty s.g) (ht : Gm.ty t.g) (hin : ∀ i, i < 8 → Gm.tyIn (e.inp i)) (hr : Lies w w.heap.size 6 A n (Gm.shotCells s.g.shots)) (hq : Lies w w.heap.size 6 B m (Gm.shotCells t.g.shots)) (hE : Lies w w.heap.size 4 AE l (En.evCells e.evs)) :
    Calls Tryz.prog 3 #[.agg (Im.cells s.g (.slice A n c) s.r), .agg (Im.cells t.g (.slice B m d) t.r), .agg (En.cells e (.slice AE l ce))] w fun r w' => r = .returned (.bool true) ∧ Below w.heap.size w w' := by
  by_cases hno : n ≤ 60 ∧ m ≤ 60 ∧ l ≤ 20
  · have LS := fun X (k : Below w.heap.size w X) => (hr.below k).wider k.size
    have LE := fun X (k : Below w.heap.size w X) => (hE.below k).wider k.size
    cases hap : Fd.apply s e with
    | none => exact asks10_main s t e A B AE n m l c d ce w hn hm hl hn63 hm63 hl63 hs ht hin hr hq hE hno.1 hno.2.1 hno.2.2 s.g s.r 1 (by rw [← hn]; exact hno.1) (fun X k => Lib.hid (foldapply_none s e A AE n c l ce X hs hno.1 hn (LS X k) hl hl63 (LE X k) hin hap)) (fun X k => Lib.hid (refapply_none s e A AE n c l ce X hs hn63 hn (LS X k) hl hl63 (LE X k) hin hap))
    | some u => exact asks10_main s t e A B AE n m l c d ce w hn hm hl hn63 hm63 hl63 hs ht hin hr hq hE hno.1 hno.2.1 hno.2.2 u.g u.r 0 ((Fd.Fine.apply ⟨(Fd.apply_some hap).1.1, hs.2.1⟩ hap).1.few) (fun X k => Lib.hid (foldapply_some u s e A AE n c l ce X hs hno.1 hn (LS X k) hl hl63 (LE X k) hin hap)) (fun X k => Lib.hid (refapply_some s u e A AE n c l ce X hs hn63 hn (LS X k) hl hl63 (LE X k) hin hap))
  · exact asks10_told s t e A B AE n m l c d ce w hn hm hl hn63 hm63 hl63 hs ht hin hr hq hE hno
end Go.Proofs.YtiahpncglpfjeaaGreat
namespace Go.Proofs.YtiahpncglpfjeaaGreat
open Go.ChangeShapes Go.WideShapes Go.ChangeAt Go.RowKit Go.Joins Go.ChangeMaps Go.Deep
set_option linter.unusedVariables false

section
variable {H : Type} {enc : TypeId × Value → H} {w : World} {base : Nat} {spare : Nat → Bool} {held : Bool}
theorem cut24 {α : Type} (l : List α) (h : l.length = 24) : l = (l.drop (0 * 3)).take 3 ++ ((l.drop (1 * 3)).take 3 ++ ((l.drop (2 * 3)).take 3 ++ ((l.drop (3 * 3)).take 3 ++ ((l.drop (4 * 3)).take 3 ++ ((l.drop (5 * 3)).take 3 ++ ((l.drop (6 * 3)).take 3 ++ ((l.drop (7 * 3)).take 3))))))) := by
  match l, h with
  | [a0, a1, a2, a3, a4, a5, a6, a7, a8, a9, a10, a11, a12, a13, a14, a15, a16, a17, a18, a19, a20, a21, a22, a23], _ => rfl
end
end Go.Proofs.YtiahpncglpfjeaaGreat
namespace Go.Proofs.YtiahpncglpfjeaaGreat
open Go.ChangeShapes Go.WideShapes Go.ChangeAt Go.RowKit Go.Joins Go.ChangeMaps Go.Deep
set_option linter.unusedVariables false

theorem cut_at9 {α : Type} (l : List α) (a b : Nat) : l.drop a = (l.drop a).take b ++ l.drop (a + b) := by
  have := (List.take_append_drop b (l.drop a)).symm
  rwa [List.drop_drop] at this
theorem cut_end9 {α : Type} (l : List α) (a b : Nat) (h : l.length = a + b) : l.drop a = (l.drop a).take b := by
  rw [List.take_of_length_le (by simp; omega)]
section
variable {H : Type} {enc : TypeId × Value → H} {w : World} {base : Nat} {spare : Nat → Bool} {held : Bool}
set_option maxRecDepth 100000 in
theorem trod_ev {base : Nat} {spare : Nat → Bool} {held : Bool} {fuel : Nat} {l : List Value} {y : DataW H × List MemPlace} (hl : l.length = 4) (h : DataW.trod enc Tryz.prog w base spare held fuel 61 l = some y) : ∃ s : En.Ev, l = s.cells ∧ En.tyEv s := by
  obtain ⟨xs, n, _, _, _, hlen, hf⟩ := DataW.trod_struct Tryz.underlying61 h
  have ci : Tryz.prog.cellsOf 3 = 1 := by kernel_rfl
  match l, hl, xs, hlen with
  | [a0, a1, a2, a3], _, [y0, y1, y2, y3], _ =>
    obtain ⟨x0, e0, _, w0⟩ := DataW.trod_int Tryz.underlying3 (hf 0 _ rfl)
    obtain ⟨x1, e1, _, w1⟩ := DataW.trod_int Tryz.underlying3 (hf 1 _ rfl)
    obtain ⟨x2, e2, _, w2⟩ := DataW.trod_int Tryz.underlying3 (hf 2 _ rfl)
    obtain ⟨x3, e3, _, w3⟩ := DataW.trod_int Tryz.underlying3 (hf 3 _ rfl)
    simp [ci] at e0 e1 e2 e3
    subst e0 e1 e2 e3
    exact ⟨⟨x0, x1, x2, x3⟩, rfl, Bd.i64 w0, Bd.i64 w1, Bd.i64 w2, Bd.i64 w3⟩
set_option maxRecDepth 100000 in
theorem trod_ins {base : Nat} {spare : Nat → Bool} {held : Bool} {fuel : Nat} {l : List Value} {y : DataW H × List MemPlace} (hl : l.length = 24) (h : DataW.trod enc Tryz.prog w base spare held fuel 40 l = some y) :
    ∃ f : Nat → Gm.In, l = Gm.insCells f ∧ ∀ k, k < 8 → Gm.tyIn (f k) := by
  obtain ⟨xs, m, _, hx, _, hn, he⟩ := DataW.trod_array Tryz.underlying40 h
  have c3 : Tryz.prog.cellsOf 39 = 3 := by kernel_rfl
  simp only [c3] at he
  have key : ∀ i, i < 8 → ∃ q : Gm.In, (l.drop (i * 3)).take 3 = q.cells ∧ Gm.tyIn q := by
    intro i hi
    have hlen : ((l.drop (i * 3)).take 3).length = 3 := by simp; omega
    obtain ⟨y, hy⟩ : ∃ y, xs[i]? = some y := ⟨xs[i]'(by omega), List.getElem?_eq_getElem (by omega)⟩
    have h : DataW.trod enc Tryz.prog w base spare held m 39 ((l.drop (i * 3)).take 3) = xs[i]? := he i hi
    rw [hy] at h
    match hq : (l.drop (i * 3)).take 3, hlen with
    | [a, b, c], _ =>
      rw [hq] at h
      obtain ⟨q, h1, h2, _⟩ := trod_in h
      exact ⟨q, h1, h2⟩
  have hch : ∃ ps : Nat → Gm.In, ∀ i, i < 8 → ((l.drop (i * 3)).take 3 = (ps i).cells ∧ Gm.tyIn (ps i)) :=
    ⟨fun i => if h : i < 8 then (key i h).choose else ⟨0, 0, 0⟩, fun i hi => by dsimp only; rw [dif_pos hi]; exact (key i hi).choose_spec⟩
  obtain ⟨ps, hps⟩ := hch
  refine ⟨ps, ?_, fun i hi => (hps i hi).2⟩
  rw [cut24 l hl]
  unfold Gm.insCells
  rw [(hps 0 (by decide)).1, (hps 1 (by decide)).1, (hps 2 (by decide)).1, (hps 3 (by decide)).1, (hps 4 (by decide)).1, (hps 5 (by decide)).1, (hps 6 (by decide)).1, (hps 7 (by decide)).1]
set_option maxRecDepth 100000 in
theorem trod_entry {base : Nat} {spare : Nat → Bool} {held : Bool} {fuel : Nat} {l : List Value} {y : DataW H × List MemPlace} (hl : l.length = 26) (h : DataW.trod enc Tryz.prog w base spare held fuel 42 l = some y) :
    ∃ q : En.S, l = q.cells ∧ En.Ty q.e ∧ q.e.evs.length ≤ maxLen ∧ Lies w w.heap.size 4 q.adr q.e.evs.length (En.evCells q.e.evs) := by
  obtain ⟨y0, y1, y2, n, _, _, h0, h1, h2⟩ := trod_struct3 Tryz.underlying42 h
  have ci : Tryz.prog.cellsOf 3 = 1 := by kernel_rfl
  have c24 : Tryz.prog.cellsOf 40 = 24 := by kernel_rfl
  have csl : Tryz.prog.cellsOf 36 = 1 := by kernel_rfl
  have c4 : Tryz.prog.cellsOf 61 = 4 := by kernel_rfl
  obtain ⟨x0, e0, _, w0⟩ := DataW.trod_int Tryz.underlying3 h0
  simp only [c24] at h2
  obtain ⟨f, e2, hty⟩ := trod_ins (by simp; omega) h2
  simp only [csl] at h1
  have hlen1 : ((l.drop 1).take 1).length = 1 := by simp; omega
  obtain ⟨u, hu⟩ : ∃ u, (l.drop 1).take 1 = [u] := by
    match hq : (l.drop 1).take 1, hlen1 with
    | [u], _ => exact ⟨u, rfl⟩
  have h1' : DataW.trod enc Tryz.prog w base spare held n 36 [u] = some y1 := by rw [← hu]; exact h1
  have hsl : ∃ a m k, u = .slice a m k := by
    rcases DataW.trod_slice Tryz.underlying36 h1' with ⟨hv, _⟩ | ⟨a, len, cap, elems, rest, k, _, hv, _⟩
    · injection hv with hv; exact ⟨_, _, _, hv⟩
    · injection hv with hv; exact ⟨_, _, _, hv⟩
  obtain ⟨a, m, k, rfl⟩ := hsl
  obtain ⟨A, c, evs, ev, ht, hm, hL⟩ := open_slice (enc := enc) (w := w) (base := base) (spare := spare) (held := held) En.Ev.cells 4 En.tyEv ⟨0, 0, 0, 0⟩ Tryz.underlying36 c4 (by decide) (fun _ => rfl) (fun hl ht => trod_ev hl ht) (v := .slice a m k) (d := y1.1) (p := y1.2) (fun cs e => by cases e) ⟨n, h1'⟩
  refine ⟨⟨⟨x0, evs, f⟩, A, c⟩, ?_, ⟨Bd.i64 w0, ht, hty⟩, hm, hL⟩
  have e0' : (l.drop 0).take 1 = [Value.int .i64 x0] := by rw [← e0, ci]
  have q2 : l.drop 2 = Gm.insCells f := by rw [← e2]; exact cut_end9 l 2 24 (by omega)
  have q1 : l.drop 1 = [Value.slice A evs.length c] ++ Gm.insCells f := by rw [← q2, ← ev, ← hu]; exact cut_at9 l 1 1
  have q0 : l.drop 0 = [Value.int .i64 x0] ++ ([Value.slice A evs.length c] ++ Gm.insCells f) := by rw [← q1, ← e0']; exact cut_at9 l 0 1
  have ql : l = [Value.int .i64 x0] ++ ([Value.slice A evs.length c] ++ Gm.insCells f) := q0
  rw [ql]
  rfl
set_option maxRecDepth 100000 in
theorem open_entry {b0 : Nat} {v : Value} {d : DataW H} {p : List MemPlace} (hv : Value.okWide Tryz.prog w .any b0 42 v) (h : DataW.Trod enc Tryz.prog w base spare held 42 v d p) :
    ∃ q : En.S, v = .agg (En.cells q.e q.sl) ∧ En.Ty q.e ∧ q.e.evs.length ≤ maxLen ∧ Lies w w.heap.size 4 q.adr q.e.evs.length (En.evCells q.e.evs) := by
  obtain ⟨cs, rfl, hsz⟩ := agg_of Tryz.underlying42 rfl hv
  rw [show Tryz.prog.cellsOf 42 = 26 from by kernel_rfl] at hsz
  obtain ⟨l⟩ := cs
  obtain ⟨fuel, hf⟩ := h
  have hf' : DataW.trod enc Tryz.prog w base spare held fuel 42 l = some (d, p) := hf
  obtain ⟨q, h1, h2⟩ := trod_entry (by simpa using hsz) hf'
  refine ⟨q, ?_, h2⟩
  rw [← En.S.cells_arr, ← h1]
end
end Go.Proofs.YtiahpncglpfjeaaGreat
namespace Go.Proofs.YtiahpncglpfjeaaGreat
open Go.ChangeShapes Go.WideShapes Go.ChangeAt Go.RowKit Go.Joins Go.ChangeMaps Go.Deep
set_option linter.unusedVariables false

def Ros.ty (r : Ros.R) : Prop := (-9223372036854775808 ≤ r.version ∧ r.version ≤ 9223372036854775807) ∧ ∀ k, k < 8 → (-9223372036854775808 ≤ r.peer k ∧ r.peer k ≤ 9223372036854775807) ∧ (-9223372036854775808 ≤ r.gen k ∧ r.gen k ≤ 9223372036854775807)
theorem cut16 {α : Type} (l : List α) (h : l.length = 16) : l = (l.drop (0 * 2)).take 2 ++ ((l.drop (1 * 2)).take 2 ++ ((l.drop (2 * 2)).take 2 ++ ((l.drop (3 * 2)).take 2 ++ ((l.drop (4 * 2)).take 2 ++ ((l.drop (5 * 2)).take 2 ++ ((l.drop (6 * 2)).take 2 ++ ((l.drop (7 * 2)).take 2))))))) := by
  match l, h with
  | [a0, a1, a2, a3, a4, a5, a6, a7, a8, a9, a10, a11, a12, a13, a14, a15], _ => rfl
section
variable {H : Type} {enc : TypeId × Value → H} {w : World} {base : Nat} {spare : Nat → Bool} {held : Bool}
theorem trod_seat {fuel : Nat} {a b : Value} {y : DataW H × List MemPlace} (h : DataW.trod enc Tryz.prog w base spare held fuel 30 [a, b] = some y) : ∃ p g : Int, [a, b] = [.int .i64 p, .int .i64 g] ∧ ((-9223372036854775808 ≤ p ∧ p ≤ 9223372036854775807) ∧ (-9223372036854775808 ≤ g ∧ g ≤ 9223372036854775807)) ∧ y.2 = [] := by
  obtain ⟨y0, y1, n, hx, _, h0, h1⟩ := trod_struct2 Tryz.underlying30 h
  obtain ⟨x0, e0, rfl, w0⟩ := DataW.trod_int Tryz.underlying3 h0
  obtain ⟨x1, e1, rfl, w1⟩ := DataW.trod_int Tryz.underlying3 h1
  have c8 : Tryz.prog.cellsOf 3 = 1 := by kernel_rfl
  simp [c8] at e0 e1
  subst e0 e1
  exact ⟨x0, x1, rfl, ⟨Bd.i64 w0, Bd.i64 w1⟩, by rw [hx]; rfl⟩
set_option maxRecDepth 100000 in
theorem trod_seats {fuel : Nat} {l : List Value} {y : DataW H × List MemPlace} (hl : l.length = 16) (h : DataW.trod enc Tryz.prog w base spare held fuel 31 l = some y) :
    ∃ f g : Nat → Int, (∀ v, l = Ros.seatCells ⟨v, f, g⟩) ∧ (∀ k, k < 8 → (-9223372036854775808 ≤ f k ∧ f k ≤ 9223372036854775807) ∧ (-9223372036854775808 ≤ g k ∧ g k ≤ 9223372036854775807)) ∧ y.2 = [] := by
  obtain ⟨xs, m, rfl, hx, _, hn, he⟩ := DataW.trod_array Tryz.underlying31 h
  have c2 : Tryz.prog.cellsOf 30 = 2 := by kernel_rfl
  simp only [c2] at he
  have key : ∀ i, i < 8 → ∃ q : Int × Int, (l.drop (i * 2)).take 2 = [.int .i64 q.1, .int .i64 q.2] ∧ ((-9223372036854775808 ≤ q.1 ∧ q.1 ≤ 9223372036854775807) ∧ (-9223372036854775808 ≤ q.2 ∧ q.2 ≤ 9223372036854775807)) ∧ ∀ y, xs[i]? = some y → y.2 = [] := by
    intro i hi
    have hlen : ((l.drop (i * 2)).take 2).length = 2 := by simp; omega
    obtain ⟨y, hy⟩ : ∃ y, xs[i]? = some y := ⟨xs[i]'(by omega), List.getElem?_eq_getElem (by omega)⟩
    have h : DataW.trod enc Tryz.prog w base spare held m 30 ((l.drop (i * 2)).take 2) = xs[i]? := he i hi
    rw [hy] at h
    match hq : (l.drop (i * 2)).take 2, hlen with
    | [a, b], _ =>
      rw [hq] at h
      obtain ⟨p, g, h1, h2, h3⟩ := trod_seat h
      exact ⟨(p, g), h1, h2, fun z hz => by rw [hy] at hz; cases hz; exact h3⟩
  have hch : ∃ ps : Nat → Int × Int, ∀ i, i < 8 → ((l.drop (i * 2)).take 2 = [.int .i64 (ps i).1, .int .i64 (ps i).2] ∧ ((-9223372036854775808 ≤ (ps i).1 ∧ (ps i).1 ≤ 9223372036854775807) ∧ (-9223372036854775808 ≤ (ps i).2 ∧ (ps i).2 ≤ 9223372036854775807)) ∧ ∀ y, xs[i]? = some y → y.2 = []) :=
    ⟨fun i => if h : i < 8 then (key i h).choose else (0, 0), fun i hi => by dsimp only; rw [dif_pos hi]; exact (key i hi).choose_spec⟩
  obtain ⟨ps, hps⟩ := hch
  refine ⟨fun k => (ps k).1, fun k => (ps k).2, fun v => ?_, fun i hi => (hps i hi).2.1, ?_⟩
  · rw [cut16 l hl]
    unfold Ros.seatCells Ros.pair
    rw [(hps 0 (by decide)).1, (hps 1 (by decide)).1, (hps 2 (by decide)).1, (hps 3 (by decide)).1, (hps 4 (by decide)).1, (hps 5 (by decide)).1, (hps 6 (by decide)).1, (hps 7 (by decide)).1]
  · rw [hx]
    apply List.flatMap_eq_nil_iff.2
    intro y hy
    obtain ⟨i, hi, rfl⟩ := List.getElem_of_mem hy
    exact (hps i (by omega)).2.2 _ (List.getElem?_eq_getElem hi)
set_option maxRecDepth 100000 in
theorem trod_ros {fuel : Nat} {l : List Value} {y : DataW H × List MemPlace} (hl : l.length = 17) (h : DataW.trod enc Tryz.prog w base spare held fuel 33 l = some y) : ∃ r : Ros.R, l.toArray = Ros.cells r ∧ Ros.ty r ∧ y.2 = [] := by
  obtain ⟨y0, y1, n, hx, _, h0, h1⟩ := trod_struct2 Tryz.underlying33 h
  obtain ⟨x0, e0, rfl, w0⟩ := DataW.trod_int Tryz.underlying3 h0
  have c8 : Tryz.prog.cellsOf 3 = 1 := by kernel_rfl
  have c16 : Tryz.prog.cellsOf 31 = 16 := by kernel_rfl
  simp only [c16] at h1
  obtain ⟨f, g, h2, h3, h4⟩ := trod_seats (by simp; omega) h1
  simp only [c8] at e0
  refine ⟨⟨x0, f, g⟩, ?_, ⟨Bd.i64 w0, h3⟩, by rw [hx, h4]; rfl⟩
  match l, hl with
  | a :: t, hl =>
    have ht : t = Ros.seatCells ⟨x0, f, g⟩ := by
      rw [← h2 x0]
      have : t.length = 16 := by simpa using hl
      simp [List.take_of_length_le, this]
    simp at e0
    subst e0
    rw [ht]; rfl
end
end Go.Proofs.YtiahpncglpfjeaaGreat
namespace Go.Proofs.YtiahpncglpfjeaaGreat
open Go.ChangeShapes Go.WideShapes Go.ChangeAt Go.RowKit Go.Joins Go.ChangeMaps Go.Deep
set_option linter.unusedVariables false

theorem cut_at {α : Type} (l : List α) (a b : Nat) : l.drop a = (l.drop a).take b ++ l.drop (a + b) := by
  have := (List.take_append_drop b (l.drop a)).symm
  rwa [List.drop_drop] at this
theorem cut_end {α : Type} (l : List α) (a b : Nat) (h : l.length = a + b) : l.drop a = (l.drop a).take b := by
  rw [List.take_of_length_le (by simp; omega)]
section
variable {H : Type} {enc : TypeId × Value → H} {w : World} {base : Nat} {spare : Nat → Bool} {held : Bool}
set_option maxRecDepth 100000 in
theorem trod_ship {fuel : Nat} {l : List Value} {y : DataW H × List MemPlace} (hl : l.length = 7) (h : DataW.trod enc Tryz.prog w base spare held fuel 24 l = some y) : ∃ s : Gm.Ship, l = s.cells ∧ Gm.tyShip s := by
  obtain ⟨xs, n, _, _, _, hlen, hf⟩ := DataW.trod_struct Tryz.underlying24 h
  have cb : Tryz.prog.cellsOf 4 = 1 := by kernel_rfl
  have c32 : Tryz.prog.cellsOf 21 = 1 := by kernel_rfl
  have ci : Tryz.prog.cellsOf 3 = 1 := by kernel_rfl
  match l, hl, xs, hlen with
  | [a0, a1, a2, a3, a4, a5, a6], _, [y0, y1, y2, y3, y4, y5, y6], _ =>
    obtain ⟨x0, e0, _⟩ := DataW.trod_bool Tryz.underlying4 (hf 0 _ rfl)
    obtain ⟨x1, e1, _, w1⟩ := DataW.trod_int Tryz.underlying21 (hf 1 _ rfl)
    obtain ⟨x2, e2, _, w2⟩ := DataW.trod_int Tryz.underlying21 (hf 2 _ rfl)
    obtain ⟨x3, e3, _, w3⟩ := DataW.trod_int Tryz.underlying21 (hf 3 _ rfl)
    obtain ⟨x4, e4, _, w4⟩ := DataW.trod_int Tryz.underlying21 (hf 4 _ rfl)
    obtain ⟨x5, e5, _, w5⟩ := DataW.trod_int Tryz.underlying3 (hf 5 _ rfl)
    obtain ⟨x6, e6, _, w6⟩ := DataW.trod_int Tryz.underlying3 (hf 6 _ rfl)
    simp [cb, c32, ci] at e0 e1 e2 e3 e4 e5 e6
    subst e0 e1 e2 e3 e4 e5 e6
    exact ⟨⟨x0, x1, x2, x3, x4, x5, x6⟩, rfl, Bd.i32 w1, Bd.i32 w2, Bd.i32 w3, Bd.i32 w4, Bd.i64 w5, Bd.i64 w6⟩
set_option maxRecDepth 100000 in
theorem trod_shot {base : Nat} {spare : Nat → Bool} {held : Bool} {fuel : Nat} {l : List Value} {y : DataW H × List MemPlace} (hl : l.length = 6) (h : DataW.trod enc Tryz.prog w base spare held fuel 90 l = some y) : ∃ s : Gm.Shot, l = s.cells ∧ Gm.tyShot s := by
  obtain ⟨xs, n, _, _, _, hlen, hf⟩ := DataW.trod_struct Tryz.underlying90 h
  have c32 : Tryz.prog.cellsOf 21 = 1 := by kernel_rfl
  have ci : Tryz.prog.cellsOf 3 = 1 := by kernel_rfl
  match l, hl, xs, hlen with
  | [a0, a1, a2, a3, a4, a5], _, [y0, y1, y2, y3, y4, y5], _ =>
    obtain ⟨x0, e0, _, w0⟩ := DataW.trod_int Tryz.underlying3 (hf 0 _ rfl)
    obtain ⟨x1, e1, _, w1⟩ := DataW.trod_int Tryz.underlying21 (hf 1 _ rfl)
    obtain ⟨x2, e2, _, w2⟩ := DataW.trod_int Tryz.underlying21 (hf 2 _ rfl)
    obtain ⟨x3, e3, _, w3⟩ := DataW.trod_int Tryz.underlying21 (hf 3 _ rfl)
    obtain ⟨x4, e4, _, w4⟩ := DataW.trod_int Tryz.underlying21 (hf 4 _ rfl)
    obtain ⟨x5, e5, _, w5⟩ := DataW.trod_int Tryz.underlying3 (hf 5 _ rfl)
    simp [c32, ci] at e0 e1 e2 e3 e4 e5
    subst e0 e1 e2 e3 e4 e5
    exact ⟨⟨x0, x1, x2, x3, x4, x5⟩, rfl, Bd.i64 w0, Bd.i32 w1, Bd.i32 w2, Bd.i32 w3, Bd.i32 w4, Bd.i64 w5⟩
set_option maxRecDepth 100000 in
theorem trod_ships {fuel : Nat} {l : List Value} {y : DataW H × List MemPlace} (hl : l.length = 56) (h : DataW.trod enc Tryz.prog w base spare held fuel 25 l = some y) :
    ∃ f : Nat → Gm.Ship, l = Gm.shipCells f ∧ ∀ k, k < 8 → Gm.tyShip (f k) := by
  obtain ⟨xs, m, _, _, _, hn, he⟩ := DataW.trod_array Tryz.underlying25 h
  have c7 : Tryz.prog.cellsOf 24 = 7 := by kernel_rfl
  simp only [c7] at he
  have key : ∀ i, i < 8 → ∃ s : Gm.Ship, (l.drop (i * 7)).take 7 = s.cells ∧ Gm.tyShip s := by
    intro i hi
    have hlen : ((l.drop (i * 7)).take 7).length = 7 := by simp; omega
    obtain ⟨y, hy⟩ : ∃ y, xs[i]? = some y := ⟨xs[i]'(by omega), List.getElem?_eq_getElem (by omega)⟩
    have h := he i hi
    rw [hy] at h
    exact trod_ship hlen h
  have hch : ∃ ps : Nat → Gm.Ship, ∀ i, i < 8 → ((l.drop (i * 7)).take 7 = (ps i).cells ∧ Gm.tyShip (ps i)) :=
    ⟨fun i => if h : i < 8 then (key i h).choose else Gm.Ship.none, fun i hi => by dsimp only; rw [dif_pos hi]; exact (key i hi).choose_spec⟩
  obtain ⟨ps, hps⟩ := hch
  refine ⟨ps, ?_, fun i hi => (hps i hi).2⟩
  have q7 : l.drop (7 * 7) = (ps 7).cells := (cut_end l (7 * 7) 7 (by omega)).trans (hps 7 (by omega)).1
  have q6 : l.drop (6 * 7) = (ps 6).cells ++ (ps 7).cells := by rw [← q7, ← (hps 6 (by omega)).1]; exact cut_at l (6 * 7) 7
  have q5 : l.drop (5 * 7) = (ps 5).cells ++ ((ps 6).cells ++ (ps 7).cells) := by rw [← q6, ← (hps 5 (by omega)).1]; exact cut_at l (5 * 7) 7
  have q4 : l.drop (4 * 7) = (ps 4).cells ++ ((ps 5).cells ++ ((ps 6).cells ++ (ps 7).cells)) := by rw [← q5, ← (hps 4 (by omega)).1]; exact cut_at l (4 * 7) 7
  have q3 : l.drop (3 * 7) = (ps 3).cells ++ ((ps 4).cells ++ ((ps 5).cells ++ ((ps 6).cells ++ (ps 7).cells))) := by rw [← q4, ← (hps 3 (by omega)).1]; exact cut_at l (3 * 7) 7
  have q2 : l.drop (2 * 7) = (ps 2).cells ++ ((ps 3).cells ++ ((ps 4).cells ++ ((ps 5).cells ++ ((ps 6).cells ++ (ps 7).cells)))) := by rw [← q3, ← (hps 2 (by omega)).1]; exact cut_at l (2 * 7) 7
  have q1 : l.drop (1 * 7) = (ps 1).cells ++ ((ps 2).cells ++ ((ps 3).cells ++ ((ps 4).cells ++ ((ps 5).cells ++ ((ps 6).cells ++ (ps 7).cells))))) := by rw [← q2, ← (hps 1 (by omega)).1]; exact cut_at l (1 * 7) 7
  have q0 : l.drop (0 * 7) = (ps 0).cells ++ ((ps 1).cells ++ ((ps 2).cells ++ ((ps 3).cells ++ ((ps 4).cells ++ ((ps 5).cells ++ ((ps 6).cells ++ (ps 7).cells)))))) := by rw [← q1, ← (hps 0 (by omega)).1]; exact cut_at l (0 * 7) 7
  exact q0
set_option maxRecDepth 100000 in
theorem trod_game {fuel : Nat} {l : List Value} {y : DataW H × List MemPlace} (hl : l.length = 59) (h : DataW.trod enc Tryz.prog w base spare held fuel 28 l = some y) :
    ∃ (g : Gm.G) (A : Option Addr) (c : Nat), l.toArray = Gm.cells g (.slice A g.shots.length c) ∧ Gm.ty g ∧ g.shots.length ≤ maxLen ∧ Lies w w.heap.size 6 A g.shots.length (Gm.shotCells g.shots) := by
  obtain ⟨y0, y1, y2, y3, n, _, _, h0, h1, h2, h3⟩ := trod_struct4 Tryz.underlying28 h
  have ci : Tryz.prog.cellsOf 3 = 1 := by kernel_rfl
  have cu : Tryz.prog.cellsOf 22 = 1 := by kernel_rfl
  have cs8 : Tryz.prog.cellsOf 25 = 56 := by kernel_rfl
  have csl : Tryz.prog.cellsOf 26 = 1 := by kernel_rfl
  have c6 : Tryz.prog.cellsOf 90 = 6 := by kernel_rfl
  obtain ⟨x0, e0, _, w0⟩ := DataW.trod_int Tryz.underlying3 h0
  obtain ⟨x1, e1, _, w1⟩ := DataW.trod_int Tryz.underlying22 h1
  simp only [cs8] at h2
  obtain ⟨f, e2, hty⟩ := trod_ships (by simp; omega) h2
  simp only [csl] at h3
  have hlen3 : ((l.drop 58).take 1).length = 1 := by simp; omega
  obtain ⟨u, hu⟩ : ∃ u, (l.drop 58).take 1 = [u] := by
    match hq : (l.drop 58).take 1, hlen3 with
    | [u], _ => exact ⟨u, rfl⟩
  have h3' : DataW.trod enc Tryz.prog w base spare held n 26 [u] = some y3 := by rw [← hu]; exact h3
  have hsl : ∃ a m k, u = .slice a m k := by
    rcases DataW.trod_slice Tryz.underlying26 h3' with ⟨hv, _⟩ | ⟨a, len, cap, elems, rest, k, _, hv, _⟩
    · injection hv with hv; exact ⟨_, _, _, hv⟩
    · injection hv with hv; exact ⟨_, _, _, hv⟩
  obtain ⟨a, m, k, rfl⟩ := hsl
  obtain ⟨A, c, shots, ev, ht, hm, hL⟩ := open_slice (enc := enc) (w := w) (base := base) (spare := spare) (held := held) Gm.Shot.cells 6 Gm.tyShot ⟨0, 0, 0, 0, 0, 0⟩ Tryz.underlying26 c6 (by decide) (fun _ => rfl) (fun hl ht => trod_shot hl ht) (v := .slice a m k) (d := y3.1) (p := y3.2) (fun cs e => by cases e) ⟨n, h3'⟩
  refine ⟨⟨x0, x1, f, shots⟩, A, c, ?_, ⟨Bd.i64 w0, by have := Bd.u64 w1; omega, hty, fun i hi => ht _ (List.getElem_mem hi)⟩, hm, hL⟩
  have e0' : (l.drop 0).take 1 = [Value.int .i64 x0] := by rw [← e0, ci]
  have e1' : (l.drop 1).take 1 = [Value.int .u64 x1] := by rw [← e1, cu]
  have e2' : (l.drop 2).take 56 = Gm.shipCells f := e2
  have q3 : l.drop 58 = [Value.slice A shots.length c] := by rw [← ev, ← hu]; exact cut_end l 58 1 (by omega)
  have q2 : l.drop 2 = Gm.shipCells f ++ [Value.slice A shots.length c] := by rw [← q3, ← e2']; exact cut_at l 2 56
  have q1 : l.drop 1 = [Value.int .u64 x1] ++ (Gm.shipCells f ++ [Value.slice A shots.length c]) := by rw [← q2, ← e1']; exact cut_at l 1 1
  have q0 : l.drop 0 = [Value.int .i64 x0] ++ ([Value.int .u64 x1] ++ (Gm.shipCells f ++ [Value.slice A shots.length c])) := by rw [← q1, ← e0']; exact cut_at l 0 1
  have ql : l = [Value.int .i64 x0] ++ ([Value.int .u64 x1] ++ (Gm.shipCells f ++ [Value.slice A shots.length c])) := q0
  rw [ql]
  rfl
set_option maxRecDepth 100000 in
theorem open_state {b0 : Nat} {v : Value} {d : DataW H} {p : List MemPlace} (hv : Value.okWide Tryz.prog w .any b0 35 v) (h : DataW.Trod enc Tryz.prog w base spare held 35 v d p) :
    ∃ (A : Option Addr) (c : Nat) (g : Gm.G) (r : Ros.R), v = .agg (Im.cells g (.slice A g.shots.length c) r) ∧ Gm.ty g ∧ g.shots.length ≤ maxLen ∧ Lies w w.heap.size 6 A g.shots.length (Gm.shotCells g.shots) := by
  obtain ⟨cs, rfl, hsz, _⟩ : ∃ cs, v = .agg cs ∧ cs.size = Tryz.prog.cellsOf 35 ∧ Row.okWide Tryz.prog w .any b0 35 cs := by
    simpa [Value.okWide, Tryz.underlying35] using hv
  rw [show Tryz.prog.cellsOf 35 = 76 from by kernel_rfl] at hsz
  obtain ⟨l⟩ := cs
  have hl : l.length = 76 := by simpa using hsz
  obtain ⟨fuel, hf⟩ := h
  have hf' : DataW.trod enc Tryz.prog w base spare held fuel 35 l = some (d, p) := hf
  obtain ⟨y0, y1, n, _, _, h0, h1⟩ := trod_struct2 Tryz.underlying35 hf'
  have cg : Tryz.prog.cellsOf 28 = 59 := by kernel_rfl
  have cr : Tryz.prog.cellsOf 33 = 17 := by kernel_rfl
  simp only [cg] at h0
  simp only [cr] at h1
  obtain ⟨g, A, c, e0, hg, hm, hL⟩ := trod_game (by simp; omega) h0
  obtain ⟨r, e1, _, _⟩ := trod_ros (by simp; omega) h1
  refine ⟨A, c, g, r, ?_, hg, hm, hL⟩
  have q1 : l.drop 59 = (l.drop 59).take 17 := cut_end l 59 17 (by omega)
  have q0 : l.drop 0 = (l.drop 0).take 59 ++ l.drop 59 := cut_at l 0 59
  have e0' : ((l.drop 0).take 59).toArray = Gm.cells g (.slice A g.shots.length c) := e0
  have e1' : ((l.drop 59).take 17).toArray = Ros.cells r := e1
  have ql : l.toArray = Im.cells g (.slice A g.shots.length c) r := by
    unfold Im.cells
    rw [← e0', ← e1', ← q1]
    have := congrArg List.toArray q0
    simp at this ⊢
  exact congrArg Value.agg ql
end
end Go.Proofs.YtiahpncglpfjeaaGreat
