/-
GameEnd's walk.
-/
import Derived.Test.YtldgajlonhgloaaHy
import Derived.Test.YtldgajlonhgloaaHi

namespace Go.Proofs.Ytldgajlonhgloaa
open Go.RowKit Go.Shelf
set_option linter.unusedVariables false

set_option maxRecDepth 100000 in
set_option maxHeartbeats 8000000 in
theorem end_last (ps : Nat → Gm.In) (a1 k : Int) (hp : ∀ i, i < 8 → Gm.tyIn (ps i)) (hK : (IntKind.u64.wrap a1).tmod 4 = k) (k0 : k = 0) (k1 : k < 4) (w : World) :
    Calls Try.prog 9 #[.agg (Gm.insCells ps).toArray, .int .i64 a1] w fun e w' => e = .returned (.bool true) ∧ Kept w w' := by
  have hd : 0 ≤ Dn.seed [101] ∧ Dn.seed [101] ≤ 18446744073709551615 := Dn.seed_bd _
  have cn := fun X => Lib.hid (new_any ⟨#[101]⟩ X (by decide))
  generalize hdd : Dn.seed [101] = d at hd cn
  obtain ⟨g0, hg0⟩ : ∃ g, g = Gm.new d := ⟨_, rfl⟩
  simp only [← hg0] at cn
  obtain ⟨F, hF⟩ : ∃ F, F = 1048576 - k := ⟨_, rfl⟩
  have hF' : 1048576 - k = F := hF.symm
  have hwk : IntKind.i64.wrap k = k := by rw [IntKind.wrap_i64]; omega
  have hwF : IntKind.i64.wrap F = F := by rw [IntKind.wrap_i64]; omega
  have hFe : (F == 1048576) = true := by rw [hF]; simp; omega
  have F0 : 0 ≤ F := by omega
  have F1 : F ≤ 1048576 := by omega
  have ct := fun X => Lib.hid (told6_any X)
  have HG0 := Lib.hid hg0
  have HD := Lib.hid hd
  have HK0 := Lib.hid k0
  have HF := Lib.hid hF
  have hb0 := one_below w (.cells (Gm.insCells ps).toArray 38)
  have HB0 := Lib.hid hb0
  have I0 := Lib.hid (Box.made w 38 (Gm.insCells ps).toArray)
  have z0 : ∀ s, (Gm.cells g0 s)[0]? = some (.int .i64 g0.frame) := fun s => Gm.cells_0 g0 s
  clear hd hg0 hdd hb0 k0 hF
  go_enter Try.func9, Try.ntmps9
  go_upto_region 3 with (first | ((with_reducible refine wpList_alloc_game rfl rfl ?_)) | ((with_reducible refine wpList_store_game_new rfl rfl rfl rfl rfl rfl ?_)) | (go_at_call 11; ((with_reducible refine ((cn _).out).mono ?_); rintro e w1 ⟨rfl, hb⟩; have HB1 := Lib.hid (HB0.out.trans (hb.mono HB0.out.size)); have P1 := Box.made w1 30 (Gm.cells g0 (.slice none 0 0)); have P1c := P1.cell; have P1f := P1.free; have HP1 := Lib.hid P1; have I1 := Lib.hid (I0.out.below hb I0.out.lt); have sz1 := (HB0.out.trans (hb.mono HB0.out.size)).size; have szI := hb.size; clear hb P1)))
  obtain ⟨W, hW⟩ : ∃ W, W = w1.alloc (.cells ((Gm.cells g0 (.slice none 0 0)).setIfInBounds 0 (.int .i64 F)) 30) := ⟨_, rfl⟩
  obtain ⟨g1, hg1⟩ : ∃ g, g = ({ g0 with frame := F } : Gm.G) := ⟨_, rfl⟩
  have X1 : Box W w1.heap.size 30 (Gm.cells g1 (.slice none 0 0)) := by rw [hW, hg1]; exact Box.made w1 _ _
  have Y1 : Below w.heap.size w W := by rw [hW]; exact HB1.out.alloc HB1.out.size _
  have Z1 : Box W w.heap.size 38 (Gm.insCells ps).toArray := by rw [hW]; exact I1.out.alloc _
  rw [← hW]
  have hs1 : g1.shots = [] := by rw [hg1, HG0.out]; rfl
  have hf1 : g1.frame = F := by rw [hg1]
  have hdc : g1.dice = d := by rw [hg1, HG0.out]; rfl
  have okg : Gm.ok g1 := by
    have h := ok_new d
    have hF := HF.out; have k0 := HK0.out
    rw [hg1, HG0.out]
    exact ⟨by show (0 : Int) ≤ F; omega, by show F ≤ 1048576; omega, h.2.2.1, h.2.2.2.1, h.2.2.2.2⟩
  have cst : Calls Try.prog 15 #[.agg (Gm.cells g1 (.slice none 0 0)), .agg (Gm.insCells ps).toArray] W fun e w' => ∃ A c, e = .returned (.tuple #[.agg (Gm.cells g1 (.slice A 0 c)), .int .i64 7]) ∧ Below W.heap.size W w' := by
    refine (step_end ps g1 none 0 0 W okg (by rw [hf1, HF.out]; have := HK0.out; omega) (by rw [hs1]; rfl) (by rw [hs1]; exact Lies.empty)).mono ?_
    rintro e w' ⟨A, c, he, _, hb⟩
    exact ⟨A, c, by rw [he, hs1]; rfl, hb⟩
  have csm := fun A c X => Lib.hid (same_yes g1 g1 A none 0 0 c 0 X (by rw [hs1]; rfl) (by rw [hs1]; rfl) (by rw [hs1]; exact Lies.empty) (by rw [hs1]; exact Lies.empty) (by decide) (Gm.Eq.refl g1))
  obtain ⟨G, hG⟩ : ∃ G, G = g1 := ⟨_, rfl⟩
  have y1 : ∀ s, (Gm.cells g1 s)[0]? = some (.int .i64 F) := fun s => by rw [← hf1]; exact Gm.cells_0 g1 s
  have HX1 := Lib.hid X1
  have HY1 := Lib.hid Y1
  have HZ1 := Lib.hid Z1
  have hcst := Lib.hid cst
  have X1c := X1.cell
  clear hW hg1 X1 Y1 Z1 hs1 hf1 hdc okg cst hG P1c P1f HP1 HB1 I1 z0 cn
  go_upto_region 5 with (first | ((with_reducible refine load_gate rfl rfl ?_); apply LoadGame.mk rfl; (with_reducible exact HX1.out)) | (refine wpList_load_blk rfl (ty := 38) rfl rfl HZ1.out Try.underlying38 rfl (by kernel_rfl) ?_) | ((with_reducible refine wpList_alloc_game rfl rfl ?_)) | ((with_reducible refine wpList_store_game_new rfl rfl rfl rfl rfl rfl ?_)) | (go_at_call 15; ((with_reducible refine (hcst.out).mono ?_); rintro e w3 ⟨A2, c2, rfl, hb⟩; have K3 := Lib.hid (hb.alloc hb.size (.cells (Gm.cells g1 (.slice A2 0 c2)) 30)); have P3 := Lib.hid (HX1.out.below K3.out HX1.out.lt); have P3c := P3.out.cell; have Q3 := Lib.hid (Box.made w3 30 (Gm.cells g1 (.slice A2 0 c2))); clear hb X1c)))
  go_wp2_with (first | (go_at_call 10; ((with_reducible refine ((ct _).out).mono ?_); rintro e w5 ⟨rfl, hb⟩; have K5 := Lib.hid (K3.out.trans (hb.mono K3.out.size)); have P5 := Lib.hid (HX1.out.below K5.out HX1.out.lt); have Q5 := Lib.hid (Q3.out.below hb Q3.out.lt); clear hb)) | ((with_reducible refine load_gate_g ?_ rfl ?_); (focus first | rfl | kernel_rfl | simp [Region.wanted, yielded]); apply LoadGame.mk rfl; (with_reducible exact Q5.out)) | ((with_reducible refine load_gate_g ?_ rfl ?_); (focus first | rfl | kernel_rfl | simp [Region.wanted, yielded]); apply LoadGame.mk rfl; (with_reducible exact P5.out)) | (go_at_call 27; ((with_reducible refine ((csm A2 c2 _).out).mono ?_); rintro e w6 ⟨rfl, hb⟩; have K6 := Lib.hid (K5.out.trans (hb.mono K5.out.size)); clear hb)))
  go_ret
  exact ⟨rfl, HY1.out.trans (K6.out.mono HY1.out.size)⟩

set_option maxRecDepth 100000 in
set_option maxHeartbeats 8000000 in
theorem end_on (ps : Nat → Gm.In) (a1 k : Int) (hp : ∀ i, i < 8 → Gm.tyIn (ps i)) (hK : (IntKind.u64.wrap a1).tmod 4 = k) (k0 : 0 < k) (k1 : k < 4) (w : World) :
    Calls Try.prog 9 #[.agg (Gm.insCells ps).toArray, .int .i64 a1] w fun e w' => e = .returned (.bool true) ∧ Kept w w' := by
  have hd : 0 ≤ Dn.seed [101] ∧ Dn.seed [101] ≤ 18446744073709551615 := Dn.seed_bd _
  have cn := fun X => Lib.hid (new_any ⟨#[101]⟩ X (by decide))
  generalize hdd : Dn.seed [101] = d at hd cn
  obtain ⟨g0, hg0⟩ : ∃ g, g = Gm.new d := ⟨_, rfl⟩
  simp only [← hg0] at cn
  obtain ⟨F, hF⟩ : ∃ F, F = 1048576 - k := ⟨_, rfl⟩
  have hF' : 1048576 - k = F := hF.symm
  have hwk : IntKind.i64.wrap k = k := by rw [IntKind.wrap_i64]; omega
  have hwF : IntKind.i64.wrap F = F := by rw [IntKind.wrap_i64]; omega
  have hFe : (F == 1048576) = false := by rw [hF]; simp; omega
  have F0 : 0 ≤ F := by omega
  have F1 : F ≤ 1048576 := by omega
  have ct := fun X => Lib.hid (told6_any X)
  have HG0 := Lib.hid hg0
  have HD := Lib.hid hd
  have HK0 := Lib.hid k0
  have HF := Lib.hid hF
  have hb0 := one_below w (.cells (Gm.insCells ps).toArray 38)
  have HB0 := Lib.hid hb0
  have I0 := Lib.hid (Box.made w 38 (Gm.insCells ps).toArray)
  have z0 : ∀ s, (Gm.cells g0 s)[0]? = some (.int .i64 g0.frame) := fun s => Gm.cells_0 g0 s
  clear hd hg0 hdd hb0 k0 hF
  go_enter Try.func9, Try.ntmps9
  go_upto_region 3 with (first | ((with_reducible refine wpList_alloc_game rfl rfl ?_)) | ((with_reducible refine wpList_store_game_new rfl rfl rfl rfl rfl rfl ?_)) | (go_at_call 11; ((with_reducible refine ((cn _).out).mono ?_); rintro e w1 ⟨rfl, hb⟩; have HB1 := Lib.hid (HB0.out.trans (hb.mono HB0.out.size)); have P1 := Box.made w1 30 (Gm.cells g0 (.slice none 0 0)); have P1c := P1.cell; have P1f := P1.free; have HP1 := Lib.hid P1; have I1 := Lib.hid (I0.out.below hb I0.out.lt); have sz1 := (HB0.out.trans (hb.mono HB0.out.size)).size; have szI := hb.size; clear hb P1)))
  obtain ⟨W, hW⟩ : ∃ W, W = w1.alloc (.cells ((Gm.cells g0 (.slice none 0 0)).setIfInBounds 0 (.int .i64 F)) 30) := ⟨_, rfl⟩
  obtain ⟨g1, hg1⟩ : ∃ g, g = ({ g0 with frame := F } : Gm.G) := ⟨_, rfl⟩
  have X1 : Box W w1.heap.size 30 (Gm.cells g1 (.slice none 0 0)) := by rw [hW, hg1]; exact Box.made w1 _ _
  have Y1 : Below w.heap.size w W := by rw [hW]; exact HB1.out.alloc HB1.out.size _
  have Z1 : Box W w.heap.size 38 (Gm.insCells ps).toArray := by rw [hW]; exact I1.out.alloc _
  rw [← hW]
  have hs1 : g1.shots = [] := by rw [hg1, HG0.out]; rfl
  have hf1 : g1.frame = F := by rw [hg1]
  have hdc : g1.dice = d := by rw [hg1, HG0.out]; rfl
  have okg : Gm.ok g1 := by
    have h := ok_new d
    have hF := HF.out; have k0 := HK0.out
    rw [hg1, HG0.out]
    exact ⟨by show (0 : Int) ≤ F; omega, by show F ≤ 1048576; omega, h.2.2.1, h.2.2.2.1, h.2.2.2.2⟩
  obtain ⟨G, hG⟩ : ∃ G, G = Gm.step ps g1 := ⟨_, rfl⟩
  have cst : Calls Try.prog 15 #[.agg (Gm.cells g1 (.slice none 0 0)), .agg (Gm.insCells ps).toArray] W fun e w' => ∃ A c, e = .returned (.tuple #[.agg (Gm.cells G (.slice A G.shots.length c)), .int .i64 0]) ∧ Below W.heap.size W w' := by
    refine (step_yes ps g1 none 0 0 W okg (by rw [hf1, HF.out]; have := HK0.out; omega) (by rw [hdc]; exact HD.out) hp (by rw [hs1]; rfl) (by rw [hs1]; exact Lies.empty)).mono ?_
    rintro e w' ⟨A, c, he, _, hb⟩
    exact ⟨A, c, by rw [he, hG], hb⟩
  have y0 : ∀ s, (Gm.cells G s)[0]? = some (.int .i64 (F + 1)) := fun s => by rw [← hf1, hG]; exact Gm.cells_0 _ s
  have y1 : ∀ s, (Gm.cells g1 s)[0]? = some (.int .i64 F) := fun s => by rw [← hf1]; exact Gm.cells_0 g1 s
  have HX1 := Lib.hid X1
  have HY1 := Lib.hid Y1
  have HZ1 := Lib.hid Z1
  have hcst := Lib.hid cst
  have X1c := X1.cell
  clear hW hg1 X1 Y1 Z1 hs1 hf1 hdc okg cst hG P1c P1f HP1 HB1 I1 z0 cn
  go_upto_region 6 with (first | ((with_reducible refine load_gate rfl rfl ?_); apply LoadGame.mk rfl; (with_reducible exact HX1.out)) | (refine wpList_load_blk rfl (ty := 38) rfl rfl HZ1.out Try.underlying38 rfl (by kernel_rfl) ?_) | ((with_reducible refine wpList_alloc_game rfl rfl ?_)) | ((with_reducible refine wpList_store_game_new rfl rfl rfl rfl rfl rfl ?_)) | (go_at_call 15; ((with_reducible refine (hcst.out).mono ?_); rintro e w3 ⟨A2, c2, rfl, hb⟩; have K3 := Lib.hid (hb.alloc hb.size (.cells (Gm.cells G (.slice A2 G.shots.length c2)) 30)); have P3 := Lib.hid (HX1.out.below K3.out HX1.out.lt); have P3c := P3.out.cell; have Q3 := Lib.hid (Box.made w3 30 (Gm.cells G (.slice A2 G.shots.length c2))); clear hb X1c)))
  go_wp2_with (first | (go_at_call 10; ((with_reducible refine ((ct _).out).mono ?_); rintro e w5 ⟨rfl, hb⟩; have K5 := Lib.hid (K3.out.trans (hb.mono K3.out.size)); have P5c := (HX1.out.below K5.out HX1.out.lt).cell; have Q5c := (Q3.out.below hb Q3.out.lt).cell; clear hb)))
  go_ret
  exact ⟨rfl, HY1.out.trans (K5.out.mono HY1.out.size)⟩

theorem end_law (ps : Nat → Gm.In) (a1 : Int) (hp : ∀ i, i < 8 → Gm.tyIn (ps i)) (w : World) :
    Calls Try.prog 9 #[.agg (Gm.insCells ps).toArray, .int .i64 a1] w fun e w' => e = .returned (.bool true) ∧ Kept w w' := by
  have h : 0 ≤ IntKind.u64.wrap a1 := by simp only [IntKind.wrap_u64]; omega
  have h4 : 0 ≤ (IntKind.u64.wrap a1).tmod 4 ∧ (IntKind.u64.wrap a1).tmod 4 < 4 := by
    rw [Int.tmod_eq_emod_of_nonneg h]; exact ⟨Int.emod_nonneg _ (by omega), Int.emod_lt_of_pos _ (by omega)⟩
  by_cases hk : (IntKind.u64.wrap a1).tmod 4 = 0
  · exact end_last ps a1 _ hp rfl hk h4.2 w
  · exact end_on ps a1 _ hp rfl (by omega) h4.2 w
end Go.Proofs.Ytldgajlonhgloaa
