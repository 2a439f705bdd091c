/-
The document's Heard: Note of one that is ahead.
-/
import Derived.Test.YtgjkodbigdgdmaaVb
import Derived.LoopTactic
namespace Sr
/-- What was moved on by d, up to k. -/
def mov (f : Nat → Bool) (d k : Nat) (i : Nat) : Bool := if i < k ∧ d ≤ i then f (i - d) else false
theorem mov_next (f : Nat → Bool) (d k : Nat) (h : d ≤ k) (i : Nat) : (if i = k then f (k - d) else mov f d k i) = mov f d (k + 1) i := by
  unfold mov
  by_cases e : i = k
  · subst e; rw [if_pos rfl, if_pos ⟨by omega, h⟩]
  · rw [if_neg e]
    by_cases h1 : i < k ∧ d ≤ i
    · rw [if_pos h1, if_pos ⟨by omega, h1.2⟩]
    · rw [if_neg h1, if_neg (by omega)]
theorem mov_skip (f : Nat → Bool) (d k : Nat) (h : ¬ d ≤ k) (i : Nat) : mov f d k i = mov f d (k + 1) i := by
  unfold mov
  by_cases h1 : i < k ∧ d ≤ i
  · omega
  · rw [if_neg h1, if_neg (by omega)]
theorem mov_zero (f : Nat → Bool) (d i : Nat) : mov f d 0 i = false := by unfold mov; rw [if_neg (by omega)]
end Sr
namespace Go.Proofs.Ytgjkodbigdgdmaa
open Go.RowKit
set_option linter.unusedVariables false

/-- What a round finds. -/
structure Mov (B C : Nat) (so : Bool) (la : Int) (f g : Nat → Bool) (w w' : World) : Prop where
  ref : Box w' B 35 (Sr.rc so la f)
  row : Box w' C 33 (Sr.row33 g).toArray
  only : Only C w w'
theorem Mov.put {B C : Nat} {so : Bool} {la : Int} {f g : Nat → Bool} {w w' : World} (h : Mov B C so la f g w w') (hne : B ≠ C) (b : Bool) (i : Nat) (hi : i < 33) : Mov B C so la f (fun j => if j = i then b else g j) w (w'.setCell ⟨C, i, none⟩ (.bool b)) :=
  ⟨h.ref.far hne _, Sr.row33_set g b i hi ▸ h.row.put i _, h.only.trans (Only.set _ i _)⟩

theorem Only.fresh {B : Nat} {w w1 : World} {v : Value} {i : Nat} (h : Only w.heap.size w w1) : ∀ (_ : Unit), Only B w (w1.drew.setCell ⟨B, i, none⟩ v) := fun _ => by
  have h1 : Only B w w1.drew := ⟨h.os, h.tape, h.output, h.size, fun k hk _ => h.block k hk (by omega)⟩
  exact h1.trans (Only.set _ i v)
theorem Only.row {B : Nat} {w w1 : World} (h : Only B w w1) (cs : Array Value) : Only B w (w1.setRow B cs) :=
  have b : Below B w1 (w1.setRow B cs) := Below.setRow' (Below.refl B w1) (Nat.le_refl B) cs
  ⟨b.os.trans h.os, b.tape.trans h.tape, b.output.trans h.output, Nat.le_trans h.size b.size, fun k hk hB => (setRow_other w1 B k cs hB).trans (h.block k hk hB)⟩

set_option maxHeartbeats 2000000 in
theorem rnote_on (la s : Int) (f : Nat → Bool) (ha : 0 ≤ la ∧ la ≤ 65535) (hs : 0 ≤ s ∧ s ≤ 65535) (k : Nat) (hd : Sr.way la s = (k : Int)) (hk : 0 < k) (hf : f 0 = true) (B : Nat) (w : World) (hB : Box w B 35 (Sr.rc true la f)) :
    Calls Try.prog 17 #[.pointer (some ⟨B, 0, none⟩), .int .u16 s] w fun e w' => e = .returned (.bool true) ∧ Box w' B 35 (Sr.rc true s (fun i => if i = 0 then true else if k ≤ i then f (i - k) else false)) ∧ Only B w w' := by
  have q0 : w.cell? ⟨B, 0, none⟩ = some (.bool true) := hB.cell 0
  have q1 : w.cell? ⟨B, 1, none⟩ = some (.int .u16 la) := hB.cell 1
  have c1 := fun X => Lib.hid (refway_any la s ha hs X)
  rw [hd] at c1
  have hk0 : (0 : Int) < k := by omega
  have hkm : (k : Int) ≤ 32767 := by have := Sr.way_bd la s; omega
  have HB := Lib.hid hB
  have hne := hB.lt
  clear hB hd
  go_enter Try.func17, Try.ntmps17
  have HN := Lib.hid hne
  have hneq := Lib.hid (Nat.ne_of_lt hne)
  clear hne
  go_wp2_with (go_at_call 11; ((with_reducible refine ((c1 _).out).mono ?_); rintro e w1 ⟨rfl, rfl⟩))
  go_loopw [7] (fun i wr => ∃ j : Nat, j ≤ 33 ∧ i = .int .i64 j ∧ Mov B w.heap.size true la f (Sr.mov f k j) w wr) (fun i _ => 33 - (intOf i).toNat)
  case atStart =>
    refine ⟨0, Nat.zero_le _, rfl, HB.out.alloc _, ?_, Only.of_below (one_below w _)⟩
    rw [Sr.row33_congr (f := Sr.mov f k 0) (g := fun _ => false) (fun i _ => Sr.mov_zero f k i)]
    exact Box.made w 33 _
  case round =>
    obtain ⟨j, hj, rfl, hM⟩ := hrel
    have HM := Lib.hid hM
    clear hM
    by_cases hlt : j < 33
    · by_cases hkj : k ≤ j
      · obtain ⟨m, hm⟩ : ∃ m, j = k + m := ⟨j - k, by omega⟩
        have hm33 : (m : Int) < 33 := by omega
        have hjm : (j : Int) - (k : Int) = (m : Int) := by omega
        have hkj' : (k : Int) ≤ j := by omega
        have hjlt : (j : Int) < 33 := by omega
        have q2 : wr.cell? ⟨B, 2 + m, none⟩ = some (.bool (f m)) := (HM.out.ref.cell _).trans (Sr.rc_at _ _ _ m (by omega))
        have q3 : wr.cell? ⟨w.heap.size, j, none⟩ = some (.bool (Sr.mov f k j j)) := (HM.out.row.cell j).trans (by simpa using Sr.row33_at (Sr.mov f k j) j hlt)
        have f3 := HM.out.row.free j
        have HE := Lib.hid (show Mov B w.heap.size true la f (Sr.mov f k (j + 1)) w (wr.setCell ⟨w.heap.size, j, none⟩ (.bool (f m))) from by
          have h1 := HM.out.put hneq.out (f m) j hlt
          have e : (fun i => if i = j then f m else Sr.mov f k j i) = Sr.mov f k (j + 1) := by
            funext i
            rw [← Sr.mov_next f k j hkj i, show j - k = m by omega]
          rw [e] at h1
          exact h1)
        generalize Sr.mov f k j j = old at *
        generalize f m = new at *
        clear hm hkj
        go_wp2
        go_roundw
        case rel => exact ⟨j + 1, by omega, by go_num, HE.out⟩
        case measure => simp [intOf]; omega
      · have hkj' : ¬ (k : Int) ≤ j := by omega
        have hjlt : (j : Int) < 33 := by omega
        have HE := Lib.hid (show Mov B w.heap.size true la f (Sr.mov f k (j + 1)) w wr from by
          have e : Sr.mov f k j = Sr.mov f k (j + 1) := by funext i; exact Sr.mov_skip f k j hkj i
          exact e ▸ HM.out)
        clear hkj
        go_wp2
        go_roundw
        case rel => exact ⟨j + 1, by omega, by go_num, HE.out⟩
        case measure => simp [intOf]; omega
    · obtain rfl : j = 33 := by omega
      have q3 : wr.cell? ⟨w.heap.size, 0, none⟩ = some (.bool (Sr.mov f k 33 0)) := (HM.out.row.cell 0).trans (by simpa using Sr.row33_at (Sr.mov f k 33) 0 (by decide))
      have f3 := HM.out.row.free 0
      have HE := Lib.hid (HM.out.put hneq.out true 0 (by decide))
      generalize Sr.mov f k 33 0 = old at *
      go_upto_region 13 with fail
      clear q3 f3 HM old
      generalize wr.setCell ⟨w.heap.size, 0, none⟩ (.bool true) = w1 at HE ⊢
      have hCB : w.heap.size ≠ B := Ne.symm hneq.out
      refine Ry.wp_region_lex (by kernel_rfl) [3] (by kernel_rfl) (· = w1.drew) (fun _ => True) (fun X => Box X w.heap.size 33 (Sr.row33 (fun j => if j = 0 then true else Sr.mov f k 33 j)).toArray) rfl (fun W hW => ⟨trivial, hW ▸ HE.out.row.drew⟩) ?_
      repeat (first
        | (apply Ry.lex_free rfl rfl; focus (intro _; go_simp; first | done | rfl))
        | (apply Ry.lex_steady rfl rfl rfl rfl; focus (intro W hW; exact exec_load_33 rfl (by go_simp) hW))
        | (apply Ry.lex_look rfl rfl rfl rfl; focus (intro W hW; clear hW; go_simp; first | done | rfl)))
      refine Ry.lex_store rfl rfl (C' := (· = w1.drew.setCell ⟨B, 1, none⟩ (.int .u16 s))) (D' := fun _ => True) (fun W hW => ⟨_, ?_, rfl⟩) (fun W hW => ⟨trivial, hW ▸ HE.out.row.drew.far hCB _⟩) ?_
      focus (subst hW; have f2 := HE.out.ref.drew.free 1; have k2 : w1.drew.cell? ⟨B, 1, none⟩ = some (.int .u16 la) := HE.out.ref.drew.cell 1; go_simp; first | done | rfl)
      have B2 := Lib.hid (show Box (w1.drew.setCell ⟨B, 1, none⟩ (.int .u16 s)) B 35 (Sr.rc true s f) from HE.out.ref.drew.put 1 _)
      have R2 := Lib.hid (show Box (w1.drew.setCell ⟨B, 1, none⟩ (.int .u16 s)) w.heap.size 33 (Sr.row33 (fun j => if j = 0 then true else Sr.mov f k 33 j)).toArray from HE.out.row.drew.far hCB _)
      have O2 := Lib.hid (show Only B w (w1.drew.setCell ⟨B, 1, none⟩ (.int .u16 s)) from Only.fresh HE.out.only ())
      generalize w1.drew.setCell ⟨B, 1, none⟩ (.int .u16 s) = w2 at B2 R2 O2 ⊢
      repeat (first
        | (apply Ry.lex_free rfl rfl; focus (intro _; go_simp; first | done | rfl))
        | (apply Ry.lex_steady rfl rfl rfl rfl; focus (intro W hW; exact exec_load_33 rfl (by go_simp) hW))
        | (apply Ry.lex_look rfl rfl rfl rfl; focus (intro W hW; clear hW; go_simp; first | done | rfl)))
      refine Ry.lex_store rfl rfl (C' := (· = w2.setRow B (Sr.rc true s (fun j => if j = 0 then true else Sr.mov f k 33 j)))) (D' := fun _ => True) (fun W hW => ⟨_, ?_, rfl⟩) (fun W hW => ⟨trivial, hW ▸ R2.out.row_far hCB _⟩) ?_
      focus (subst hW; exact exec_store_33 (B := B) (so := true) (la := s) (f := f) (g := fun j => if j = 0 then true else Sr.mov f k 33 j) rfl (by go_simp) (by go_simp) B2.out)
      refine Ry.lex_end fun W2 hW2 => ?_
      simp only [Act.put, List.setIfInBounds_toArray, List.set_cons_succ, List.set_cons_zero]
      have B3 := Lib.hid (show Box W2 B 35 (Sr.rc true s (fun i => if i = 0 then true else if k ≤ i then f (i - k) else false)) from by
        have h1 := hW2 ▸ B2.out.row (Sr.rc true s (fun j => if j = 0 then true else Sr.mov f k 33 j))
        rw [Sr.rc_congr (g := fun i => if i = 0 then true else if k ≤ i then f (i - k) else false) (fun i hi => by
          by_cases h0 : i = 0
          · rw [if_pos h0, if_pos h0]
          · rw [if_neg h0, if_neg h0]
            unfold Sr.mov
            by_cases h1 : k ≤ i
            · rw [if_pos h1, if_pos ⟨hi, h1⟩]
            · rw [if_neg h1, if_neg (by omega)])] at h1
        exact h1)
      have O3 := Lib.hid (show Only B w W2 from hW2 ▸ O2.out.row _)
      clear hW2 B2 R2 O2 HE
      go_wp2
      go_ret
      exact ⟨rfl, B3.out, O3.out⟩
end Go.Proofs.Ytgjkodbigdgdmaa
