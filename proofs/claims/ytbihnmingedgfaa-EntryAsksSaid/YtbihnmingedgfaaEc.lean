/-
The program's entry: what may be.
-/
import Derived.Test.YtbihnmingedgfaaEd
import Derived.Test.YtbihnmingedgfaaOp
import Derived.Deep.CutRange
import Derived.Deep.CutBlock
import Derived.Deep.DeepCutAuto
namespace Go.Proofs.Ytbihnmingedgfaa
open Go.RowKit Go.Shelf
set_option linter.unusedVariables false
set_option linter.unusedSimpArgs false

theorem ev_info : (Try.prog.info? 83).map (fun i => (i.zero, i.size, i.bytes)) = some (some (.agg #[.int .i64 0, .int .i64 0, .int .i64 0, .int .i64 0]), 4, 32) := by kernel_rfl
theorem en_info : (Try.prog.info? 72).map (·.size) = some 26 := by kernel_rfl
theorem ins_info : (Try.prog.info? 38).map (·.size) = some 24 := by kernel_rfl

theorem stickmay_any (x y b : Int) (w : World) :
    Calls Try.prog 93 #[.agg #[.int .i8 x, .int .i8 y, .int .u8 b]] w fun e w' => e = .returned (.bool (decide (-127 ≤ x ∧ -127 ≤ y))) ∧ Below w.heap.size w w' := by
  by_cases hx : -127 ≤ x
  · go_enter Try.func93, Try.ntmps93
    go_wp2
    go_ret
    exact ⟨ret_bool (by (try rw [Bool.eq_iff_iff]) <;> simp <;> omega), one_below _ _⟩
  · go_enter Try.func93, Try.ntmps93
    go_wp2
    go_ret
    exact ⟨ret_bool (by (try rw [Bool.eq_iff_iff]) <;> simp <;> omega), one_below _ _⟩

set_option maxHeartbeats 1000000 in
theorem mayevent_any (k s g p : Int) (w : World) :
    Calls Try.prog 133 #[.agg #[.int .i64 k, .int .i64 s, .int .i64 g, .int .i64 p]] w fun e w' => e = .returned (.bool (decide (En.evOk ⟨k, s, g, p⟩))) ∧ Below w.heap.size w w' := by
  obtain ⟨r, hr⟩ : ∃ r, r = decide (En.evOk ⟨k, s, g, p⟩) := ⟨_, rfl⟩
  rw [← hr]
  unfold En.evOk at hr
  dsimp only at hr
  by_cases hk : k = 2 ∨ k = 1
  · have hkb : (if (k == 2) = true then true else k == 1) = true := by rcases hk with rfl | rfl <;> rfl
    by_cases hs : 0 ≤ s ∧ s < 8
    · by_cases hg : 1 ≤ g ∧ g ≤ 60000
      · have hr' : r = decide (0 ≤ p ∧ p < 12) := by
          rw [hr]
          by_cases hp : 0 ≤ p ∧ p < 12
          · rw [decide_eq_true hp]; exact decide_eq_true ⟨hk, hs, hg, hp⟩
          · rw [decide_eq_false hp]; exact decide_eq_false fun h => hp h.2.2.2
        have HR := Lib.hid hr'
        clear hr hr'
        obtain ⟨hs1, hs2⟩ := hs
        obtain ⟨hg1, hg2⟩ := hg
        rcases hk with rfl | rfl
        all_goals
          by_cases hp1 : 0 ≤ p
          all_goals
            go_enter Try.func133, Try.ntmps133
            go_wp2
            go_ret
            exact ⟨ret_bool (by rw [HR.out]; (try rw [Bool.eq_iff_iff]) <;> simp <;> omega), one_below _ _⟩
      · have hr' : r = false := by rw [hr]; exact decide_eq_false (by omega)
        subst hr'
        obtain ⟨hs1, hs2⟩ := hs
        clear hr
        rcases hk with rfl | rfl
        all_goals
          by_cases hg1 : 1 ≤ g
          · have hg2 : ¬ g ≤ 60000 := by omega
            go_enter Try.func133, Try.ntmps133
            go_wp2
            go_ret
            exact ⟨rfl, one_below _ _⟩
          · go_enter Try.func133, Try.ntmps133
            go_wp2
            go_ret
            exact ⟨rfl, one_below _ _⟩
    · have hr' : r = false := by rw [hr]; exact decide_eq_false (by omega)
      subst hr'
      clear hr
      rcases hk with rfl | rfl
      all_goals
        by_cases hs1 : 0 ≤ s
        · have hs2 : ¬ s < 8 := by omega
          go_enter Try.func133, Try.ntmps133
          go_wp2
          go_ret
          exact ⟨rfl, one_below _ _⟩
        · go_enter Try.func133, Try.ntmps133
          go_wp2
          go_ret
          exact ⟨rfl, one_below _ _⟩
  · have hr' : r = false := by rw [hr]; exact decide_eq_false (by omega)
    subst hr'
    have h2 : (k == 2) = false := by simp; omega
    have h1 : (k == 1) = false := by simp; omega
    clear hr hk
    go_enter Try.func133, Try.ntmps133
    go_wp2
    go_ret
    exact ⟨rfl, one_below _ _⟩

theorem place_any (k s g p : Int) (w : World) (h : En.evOk ⟨k, s, g, p⟩) :
    Calls Try.prog 134 #[.agg #[.int .i64 k, .int .i64 s, .int .i64 g, .int .i64 p]] w fun e w' => e = .returned (.int .i64 (En.place ⟨k, s, g, p⟩)) ∧ Below w.heap.size w w' := by
  obtain ⟨h1, h2, _⟩ := h
  dsimp only at h1 h2
  have hw : IntKind.i64.wrap (8 + s) = 8 + s := by rw [IntKind.wrap_i64]; omega
  rcases h1 with rfl | rfl
  · go_enter Try.func134, Try.ntmps134
    go_wp2
    go_ret
    exact ⟨rfl, one_below _ _⟩
  · go_enter Try.func134, Try.ntmps134
    go_wp2
    go_ret
    exact ⟨rfl, one_below _ _⟩

theorem evs_at {w : World} {B n : Nat} {A : Option Addr} {l : List En.Ev} (h : Lies w B 4 A n (En.evCells l)) (hn : n = l.length) (k : Nat) (hk : k < l.length) :
    ∃ ad, A = some ad ∧ ad.block < B ∧ w.cell? (ad.add (k * 4)) = some (.int .i64 l[k].kind) ∧ w.cell? ⟨(ad.add (k * 4)).block, (ad.add (k * 4)).off + 1, none⟩ = some (.int .i64 l[k].slot) ∧
      w.cell? ⟨(ad.add (k * 4)).block, (ad.add (k * 4)).off + 2, none⟩ = some (.int .i64 l[k].gen) ∧ w.cell? ⟨(ad.add (k * 4)).block, (ad.add (k * 4)).off + 3, none⟩ = some (.int .i64 l[k].peer) := by
  obtain ⟨ad, rfl, hb⟩ := h.start (by omega)
  have hc := h.cell ad rfl (by omega)
  have hj : ∀ j v, j < 4 → l[k].cells[j]? = some v → w.cell? ((ad.add (k * 4)).add j) = some v := fun j v hj hv => by
    rw [add_twice]
    exact hc _ v (by rw [En.evCells_at l k j hk hj, hv])
  exact ⟨ad, rfl, hb, hj 0 _ (by decide) rfl, hj 1 _ (by decide) rfl, hj 2 _ (by decide) rfl, hj 3 _ (by decide) rfl⟩

set_option maxHeartbeats 2000000 in
theorem mayrow_any (l : List En.Ev) (A : Option Addr) (n c : Nat) (w : World) (hn : n = l.length) (hn63 : n ≤ maxLen) (hL : Lies w w.heap.size 4 A n (En.evCells l)) :
    Calls Try.prog 92 #[.slice A n c] w fun e w' => e = .returned (.bool (decide (En.Row (-1) l))) ∧ Below w.heap.size w w' := by
  obtain ⟨r, hr⟩ : ∃ r, r = decide (En.Row (-1) l) := ⟨_, rfl⟩
  rw [← hr]
  have HR := Lib.hid hr
  have HN := Lib.hid hn
  have n63 : (n : Int) ≤ 9223372036854775807 := by unfold maxLen at hn63; omega
  clear hr hn hn63
  go_enter Try.func92, Try.ntmps92
  go_wp2
  go_loopw [3, 8] (fun la i wr => ∃ (k : Nat) (z : Int), k ≤ n ∧ i = .int .i64 k ∧ la = .int .i64 z ∧ (-1 ≤ z ∧ z < 16) ∧ (En.Row (-1) l ↔ En.Row z (l.drop k)) ∧ Below w.heap.size w wr) (fun _ i _ => n - (intOf i).toNat)
  case atStart => exact ⟨0, -1, by omega, rfl, rfl, by omega, Iff.rfl, Below.refl _ _⟩
  case round =>
    obtain ⟨k, z, hk, rfl, rfl, hz, hrow, hb⟩ := hrel
    by_cases hlt : k < n
    · have hk8 : (k : Int) < n := by omega
      have hkl : k < l.length := by have := HN.out; omega
      obtain ⟨ad, rfl, hbl, e0, e1, e2, e3⟩ := evs_at (hL.below hb) HN.out k hkl
      rw [List.drop_eq_getElem_cons hkl] at hrow
      generalize hv : l[k] = v at e0 e1 e2 e3 hrow
      obtain ⟨vk, vs, vg, vp⟩ := v
      dsimp only at e0 e1 e2 e3
      have hrow' : En.Row (-1) l ↔ (En.evOk ⟨vk, vs, vg, vp⟩ ∧ z < En.place ⟨vk, vs, vg, vp⟩) ∧ En.Row (En.place ⟨vk, vs, vg, vp⟩) (l.drop (k + 1)) := hrow
      have HW := Lib.hid hrow'
      have HB := Lib.hid hb
      have sz := hb.size
      have ltA : ad.block < wr.heap.size := by omega
      by_cases hev : En.evOk ⟨vk, vs, vg, vp⟩
      · have cm := fun X => Lib.hid (mayevent_any vk vs vg vp X)
        rw [decide_eq_true hev] at cm
        have cp := fun X => Lib.hid (place_any vk vs vg vp X hev)
        have hpl := En.place_lt hev
        have hevH := Lib.hid hev
        generalize hp : En.place ⟨vk, vs, vg, vp⟩ = pl at cp hpl HW
        clear hrow hrow' hb hv hL hev hp
        by_cases hlp : z < pl
        · have hnp : ¬ pl ≤ z := by omega
          go_wp2_with (first | (go_at_call 133; ((with_reducible refine ((cm _).out).mono ?_); rintro e w1 ⟨rfl, hb1⟩; have K1 := Lib.hid (((HB.out.alloc sz _).trans (hb1.mono (by simp <;> omega)))); have P1 := Lib.hid ((Box.made wr 83 #[.int .i64 vk, .int .i64 vs, .int .i64 vg, .int .i64 vp]).below hb1 (by simp)); have p1 := P1.out.cell; clear hb1)) | (go_at_call 134; ((with_reducible refine ((cp _).out).mono ?_); rintro e w2 ⟨rfl, hb2⟩; first | (have K3 := Lib.hid (K2.out.trans (hb2.mono K2.out.size))) | (have K2 := Lib.hid (K1.out.trans (hb2.mono K1.out.size)); have P2 := Lib.hid (P1.out.below hb2 P1.out.lt); have p2 := P2.out.cell); clear hb2)))
          go_roundw
          case rel => exact ⟨k + 1, pl, by omega, by go_num, rfl, by omega, HW.out.trans ⟨fun h => h.2, fun h => ⟨⟨hevH.out, hlp⟩, h⟩⟩, K3.out⟩
          case measure => simp [intOf]; omega
        · have hnp : pl ≤ z := by omega
          go_wp2_with (first | (go_at_call 133; ((with_reducible refine ((cm _).out).mono ?_); rintro e w1 ⟨rfl, hb1⟩; have K1 := Lib.hid (((HB.out.alloc sz _).trans (hb1.mono (by simp <;> omega)))); have P1 := Lib.hid ((Box.made wr 83 #[.int .i64 vk, .int .i64 vs, .int .i64 vg, .int .i64 vp]).below hb1 (by simp)); have p1 := P1.out.cell; clear hb1)) | (go_at_call 134; ((with_reducible refine ((cp _).out).mono ?_); rintro e w2 ⟨rfl, hb2⟩; have K2 := Lib.hid (K1.out.trans (hb2.mono K1.out.size)); clear hb2)))
          go_ret
          exact ⟨ret_bool (by rw [HR.out]; exact (decide_eq_false fun h => absurd (HW.out.1 h).1.2 (by omega)).symm), K2.out⟩
      · have cm := fun X => Lib.hid (mayevent_any vk vs vg vp X)
        rw [decide_eq_false hev] at cm
        have hevH := Lib.hid hev
        clear hrow hrow' hb hv hL hev
        go_wp2_with (go_at_call 133; ((with_reducible refine ((cm _).out).mono ?_); rintro e w1 ⟨rfl, hb1⟩; have K1 := Lib.hid (((HB.out.alloc sz _).trans (hb1.mono (by simp <;> omega)))); clear hb1))
        go_ret
        exact ⟨ret_bool (by rw [HR.out]; exact (decide_eq_false fun h => hevH.out (HW.out.1 h).1.1).symm), K1.out⟩
    · have hk8 : ¬ (k : Int) < n := by omega
      obtain rfl : k = n := by omega
      have hd : l.drop k = [] := List.drop_eq_nil_of_le (by have := HN.out; omega)
      rw [hd] at hrow
      have HW := Lib.hid hrow
      have HB := Lib.hid hb
      clear hrow hb hL
      go_wp2
      go_ret
      exact ⟨ret_bool (by rw [HR.out]; exact (decide_eq_true (HW.out.2 trivial)).symm), HB.out⟩
end Go.Proofs.Ytbihnmingedgfaa
