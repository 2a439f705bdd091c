/-
The document's Heard: Note.
-/
import Derived.Test.YtgjkodbigdgdmaaVa
namespace Go.Proofs.Ytgjkodbigdgdmaa
open Go.RowKit
set_option linter.unusedVariables false

set_option maxHeartbeats 2000000 in
theorem rnote_one (la s : Int) (f : Nat → Bool) (B : Nat) (w : World) (hB : Box w B 35 (Sr.rc false la f)) :
    Calls Try.prog 17 #[.pointer (some ⟨B, 0, none⟩), .int .u16 s] w fun e w' => e = .returned (.bool true) ∧ Box w' B 35 (Sr.rc true s (fun i => if i = 0 then true else f i)) ∧ Only B w w' := by
  have q0 : w.cell? ⟨B, 0, none⟩ = some (.bool false) := hB.cell 0
  have B1 := Lib.hid (show Box (w.drew.setCell ⟨B, 0, none⟩ (.bool true)) B 35 (Sr.rc true la f) from hB.drew.put 0 _)
  have O1 := Lib.hid ((Only.of_below (Below.refl w.heap.size w).drew).trans (Only.set (B := B) w.drew 0 (.bool true)))
  have f0 := Lib.hid (hB.drew.free 0)
  have k0 := Lib.hid (show w.drew.cell? ⟨B, 0, none⟩ = some (.bool false) from hB.drew.cell 0)
  clear hB
  go_enter Try.func17, Try.ntmps17
  go_upto_region 2 with fail
  clear q0
  refine Ry.wp_region_lex (by kernel_rfl) [10] (by kernel_rfl) (· = w.drew) (fun _ => True) (fun _ => True) rfl (fun W hW => ⟨trivial, trivial⟩) ?_
  repeat (first
    | (apply Ry.lex_free rfl rfl; focus (intro _; go_simp; first | done | rfl))
    | (apply Ry.lex_look rfl rfl rfl rfl; focus (intro W hW; clear hW; go_simp; first | done | rfl))
    | (apply Ry.lex_steady rfl rfl rfl rfl; focus (intro W hW; clear hW; go_simp; first | done | rfl)))
  refine Ry.lex_store rfl rfl (C' := (· = w.drew.setCell ⟨B, 0, none⟩ (.bool true))) (D' := fun _ => True) (fun W hW => ⟨_, ?_, rfl⟩) (fun _ _ => ⟨trivial, trivial⟩) ?_
  focus (subst hW; have f2 := f0.out; have k2 := k0.out; go_simp; first | done | rfl)
  generalize w.drew.setCell ⟨B, 0, none⟩ (.bool true) = w1 at B1 O1 ⊢
  repeat (first
    | (apply Ry.lex_free rfl rfl; focus (intro _; go_simp; first | done | rfl))
    | (apply Ry.lex_look rfl rfl rfl rfl; focus (intro W hW; clear hW; go_simp; first | done | rfl))
    | (apply Ry.lex_steady rfl rfl rfl rfl; focus (intro W hW; clear hW; go_simp; first | done | rfl)))
  refine Ry.lex_store rfl rfl (C' := (· = w1.setCell ⟨B, 1, none⟩ (.int .u16 s))) (D' := fun _ => True) (fun W hW => ⟨_, ?_, rfl⟩) (fun _ _ => ⟨trivial, trivial⟩) ?_
  focus (subst hW; have f2 := B1.out.free 1; have k2 : W.cell? ⟨B, 1, none⟩ = some (.int .u16 la) := B1.out.cell 1; go_simp; first | done | rfl)
  have B2 := Lib.hid (show Box (w1.setCell ⟨B, 1, none⟩ (.int .u16 s)) B 35 (Sr.rc true s f) from B1.out.put 1 _)
  have O2 := Lib.hid (O1.out.trans (Only.set (B := B) w1 1 (.int .u16 s)))
  generalize w1.setCell ⟨B, 1, none⟩ (.int .u16 s) = w2 at B2 O2 ⊢
  repeat (first
    | (apply Ry.lex_free rfl rfl; focus (intro _; go_simp; first | done | rfl))
    | (apply Ry.lex_look rfl rfl rfl rfl; focus (intro W hW; clear hW; go_simp; first | done | rfl))
    | (apply Ry.lex_steady rfl rfl rfl rfl; focus (intro W hW; clear hW; go_simp; first | done | rfl)))
  refine Ry.lex_store rfl rfl (C' := (· = w2.setCell ⟨B, 2, none⟩ (.bool true))) (D' := fun _ => True) (fun W hW => ⟨_, ?_, rfl⟩) (fun _ _ => ⟨trivial, trivial⟩) ?_
  focus (subst hW; have f2 := B2.out.free 2; have k2 : W.cell? ⟨B, 2, none⟩ = some (.bool (f 0)) := B2.out.cell 2; go_simp; first | done | rfl)
  have B3 := Lib.hid (show Box (w2.setCell ⟨B, 2, none⟩ (.bool true)) B 35 (Sr.rc true s (fun i => if i = 0 then true else f i)) from Sr.rc_set true s f true 0 (by decide) ▸ B2.out.put 2 _)
  have O3 := Lib.hid (O2.out.trans (Only.set (B := B) w2 2 (.bool true)))
  generalize w2.setCell ⟨B, 2, none⟩ (.bool true) = w3 at B3 O3 ⊢
  refine Ry.lex_end fun W2 hW2 => ?_
  simp only [Act.put, List.setIfInBounds_toArray, List.set_cons_succ, List.set_cons_zero]
  subst hW2
  go_wp2
  go_ret
  exact ⟨rfl, B3.out, O3.out⟩

set_option maxHeartbeats 2000000 in
theorem rnote_far (la s : Int) (f : Nat → Bool) (ha : 0 ≤ la ∧ la ≤ 65535) (hs : 0 ≤ s ∧ s ≤ 65535) (hd : Sr.way la s < -32) (B : Nat) (w : World) (hB : Box w B 35 (Sr.rc true la f)) :
    Calls Try.prog 17 #[.pointer (some ⟨B, 0, none⟩), .int .u16 s] w fun e w' => e = .returned (.bool false) ∧ Box w' B 35 (Sr.rc true la f) ∧ Only B w w' := by
  have q0 : w.cell? ⟨B, 0, none⟩ = some (.bool true) := hB.cell 0
  have q1 : w.cell? ⟨B, 1, none⟩ = some (.int .u16 la) := hB.cell 1
  have c1 := fun X => Lib.hid (refway_any la s ha hs X)
  have hk := Sr.way_bd la s
  have HB := Lib.hid hB
  clear hB
  generalize Sr.way la s = d at *
  go_enter Try.func17, Try.ntmps17
  go_wp2_with (go_at_call 11; ((with_reducible refine ((c1 _).out).mono ?_); rintro e w1 ⟨rfl, rfl⟩))
  all_goals
    go_ret
    exact ⟨rfl, HB.out, Only.refl _ _⟩
set_option maxHeartbeats 2000000 in
theorem rnote_came (la s : Int) (f : Nat → Bool) (ha : 0 ≤ la ∧ la ≤ 65535) (hs : 0 ≤ s ∧ s ≤ 65535) (k : Nat) (hd : Sr.way la s = -(k : Int)) (hk : k ≤ 32) (hf : f k = true) (B : Nat) (w : World) (hB : Box w B 35 (Sr.rc true la f)) :
    Calls Try.prog 17 #[.pointer (some ⟨B, 0, none⟩), .int .u16 s] w fun e w' => e = .returned (.bool false) ∧ Box w' B 35 (Sr.rc true la f) ∧ Only B w w' := by
  have q0 : w.cell? ⟨B, 0, none⟩ = some (.bool true) := hB.cell 0
  have q1 : w.cell? ⟨B, 1, none⟩ = some (.int .u16 la) := hB.cell 1
  have q2 : w.cell? ⟨B, 2 + k, none⟩ = some (.bool true) := (hB.cell _).trans ((Sr.rc_at _ _ _ k (by omega)).trans (by rw [hf]))
  have c1 := fun X => Lib.hid (refway_any la s ha hs X)
  rw [hd] at c1
  have HB := Lib.hid hB
  clear hB hd hf
  go_enter Try.func17, Try.ntmps17
  go_wp2_with (go_at_call 11; ((with_reducible refine ((c1 _).out).mono ?_); rintro e w1 ⟨rfl, rfl⟩))
  all_goals
    go_ret
    exact ⟨rfl, HB.out, Only.refl _ _⟩
set_option maxHeartbeats 2000000 in
theorem rnote_late (la s : Int) (f : Nat → Bool) (ha : 0 ≤ la ∧ la ≤ 65535) (hs : 0 ≤ s ∧ s ≤ 65535) (k : Nat) (hd : Sr.way la s = -(k : Int)) (hk : k ≤ 32) (hf : f k = false) (B : Nat) (w : World) (hB : Box w B 35 (Sr.rc true la f)) :
    Calls Try.prog 17 #[.pointer (some ⟨B, 0, none⟩), .int .u16 s] w fun e w' => e = .returned (.bool true) ∧ Box w' B 35 (Sr.rc true la (fun i => if i = k then true else f i)) ∧ Only B w w' := by
  have q0 : w.cell? ⟨B, 0, none⟩ = some (.bool true) := hB.cell 0
  have q1 : w.cell? ⟨B, 1, none⟩ = some (.int .u16 la) := hB.cell 1
  have q2 : w.cell? ⟨B, 2 + k, none⟩ = some (.bool false) := (hB.cell _).trans ((Sr.rc_at _ _ _ k (by omega)).trans (by rw [hf]))
  have f2 := hB.free (2 + k)
  have c1 := fun X => Lib.hid (refway_any la s ha hs X)
  rw [hd] at c1
  have HB := Lib.hid (show Box (w.setCell ⟨B, 2 + k, none⟩ (.bool true)) B 35 (Sr.rc true la (fun i => if i = k then true else f i)) from Sr.rc_set true la f true k (by omega) ▸ hB.put (2 + k) _)
  have HO := Lib.hid (Only.set (B := B) w (2 + k) (.bool true))
  clear hB hd hf
  go_enter Try.func17, Try.ntmps17
  go_wp2_with (go_at_call 11; ((with_reducible refine ((c1 _).out).mono ?_); rintro e w1 ⟨rfl, rfl⟩))
  all_goals
    go_ret
    exact ⟨rfl, HB.out, HO.out⟩
end Go.Proofs.Ytgjkodbigdgdmaa
