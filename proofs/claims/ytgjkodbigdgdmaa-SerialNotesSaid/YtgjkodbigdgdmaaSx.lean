/-
Package serial: goOn.
-/
import Derived.Test.YtgjkodbigdgdmaaSw
namespace Go.Proofs.Ytgjkodbigdgdmaa
open Go.RowKit
set_option linter.unusedVariables false

set_option maxHeartbeats 1000000 in
theorem goon_first (la s : Int) (se B : Nat) (w : World) (hB : Box w B 48 (Sr.H.cells ⟨false, la, se⟩)) :
    Calls Try.prog 21 #[.pointer (some ⟨B, 0, none⟩), .int .u16 s] w fun e w' => e = .returned (.tuple #[]) ∧ Box w' B 48 (Sr.H.cells ⟨true, s, se⟩) ∧ Only B w w' := by
  have q0 : w.cell? ⟨B, 0, none⟩ = some (.bool false) := hB.cell 0
  have q1 : w.cell? ⟨B, 1, none⟩ = some (.int .u16 la) := hB.cell 1
  have f0 := hB.free 0
  have f1 := hB.free 1
  have q2 : (w.setCell ⟨B, 0, none⟩ (.bool true)).cell? ⟨B, 1, none⟩ = some (.int .u16 la) := (hB.put 0 (.bool true)).cell 1
  have f2 := (hB.put 0 (.bool true)).free 1
  have HE := Lib.hid (show Box _ B 48 (Sr.H.cells ⟨true, s, se⟩) from (hB.put 0 (.bool true)).put 1 (.int .u16 s))
  have HO := Lib.hid ((Only.set (B := B) w 0 (.bool true)).trans (Only.set (w.setCell ⟨B, 0, none⟩ (.bool true)) 1 (.int .u16 s)))
  clear hB
  go_enter Try.func21, Try.ntmps21
  go_wp2
  go_end0
  exact ⟨rfl, HE.out, HO.out⟩

set_option maxHeartbeats 2000000 in
theorem goon_ahead (la s : Int) (se B : Nat) (hse : se < 4294967296) (hd : 0 < Sr.way la s) (w : World) (hB : Box w B 48 (Sr.H.cells ⟨true, la, se⟩)) :
    Calls Try.prog 21 #[.pointer (some ⟨B, 0, none⟩), .int .u16 s] w fun e w' => e = .returned (.tuple #[]) ∧ Box w' B 48 (Sr.H.cells ⟨true, s, Sr.up se (Sr.way la s)⟩) ∧ Only B w w' := by
  have q0 : w.cell? ⟨B, 0, none⟩ = some (.bool true) := hB.cell 0
  have c1 := fun X => Lib.hid (serway_any la s X)
  have c2 := fun X => Lib.hid (serbits_any s X)
  have c3 := fun X hX => Lib.hid (serbit_any s la w.heap.size X hX)
  have hk := shift_up se (Sr.way la s) hd
  have hmod : se * 2 ^ (Sr.way la s).toNat % 4294967296 < 4294967296 := Nat.mod_lt _ (by decide)
  have hor := u32_or_nat _ _ hmod (Sr.bitN_lt (Sr.way la s))
  have HB := Lib.hid hB
  clear hB
  unfold Sr.up at *
  generalize (se * 2 ^ (Sr.way la s).toNat % 4294967296) = M at *
  generalize Sr.bitN (Sr.way la s) = Z at *
  generalize Sr.way la s = d at *
  go_enter Try.func21, Try.ntmps21
  go_upto_region 1 with fail
  clear q0
  have hL : ∀ X : World, Box X B 48 (Sr.H.cells ⟨true, la, se⟩) → X.cell? ⟨B, 1, none⟩ = some (.int .u16 la) := fun X hX => hX.cell 1
  have hS : ∀ X : World, Box X B 48 (Sr.H.cells ⟨true, la, se⟩) → X.cell? ⟨B, 2, none⟩ = some (.int .u32 (se : Nat)) := fun X hX => hX.cell 2
  have HL := Lib.hid hL
  have HS := Lib.hid hS
  clear hL hS
  refine Ry.wp_region_lex (by kernel_rfl) [] (by kernel_rfl) (· = w.drew) (fun X => Box X B 48 (Sr.H.cells ⟨true, la, se⟩)) (fun _ => True) rfl (fun W hW => ⟨hW ▸ HB.out.drew, trivial⟩) ?_
  have hW1 := Lib.hid (show Box (w.drew.alloc (.cells #[.int .u16 s] 22)) B 48 (Sr.H.cells ⟨true, la, se⟩) from HB.out.drew.alloc _)
  repeat (first
    | (apply Ry.lex_free rfl rfl; focus (intro _; go_simp; first | done | rfl))
    | (apply Ry.lex_look rfl rfl rfl rfl; focus (intro W hW; have l1 := HL.out W hW; have l2 := HS.out W hW; clear hW; go_simp; first | done | rfl)))
  refine Ry.lex_call (C' := (· = w.drew)) (v := .int .i64 d) (f := 10) (args := #[.int .u16 la, .int .u16 s]) rfl ?_ ?_ (fun W hW => ⟨hW ▸ HB.out.drew, trivial⟩) ?_
  · intro Z hZ; clear hZ; go_simp; first | done | rfl | exact ⟨rfl, rfl⟩
  · intro Z hZ
    exact (c1 Z).out.mono (fun e w' h => ⟨h.1, h.2.symm.trans hZ⟩)
  repeat (first
    | (apply Ry.lex_free rfl rfl; focus (intro _; go_simp; first | done | rfl))
    | (apply Ry.lex_look rfl rfl rfl rfl; focus (intro W hW; have l1 := HL.out W hW; have l2 := HS.out W hW; clear hW; go_simp; first | done | rfl)))
  refine Ry.lex_call (C' := (· = w.drew.alloc (.cells #[.int .u16 s] 22))) (v := .func (.func 22) #[] #[.pointer (some ⟨w.heap.size, 0, none⟩)]) (f := 20) (args := #[.int .u16 s]) rfl ?_ ?_ (fun W hW => ⟨hW ▸ hW1.out, trivial⟩) ?_
  · intro Z hZ; clear hZ; go_simp; first | done | rfl | exact ⟨rfl, rfl⟩
  · intro Z hZ
    subst hZ
    exact (c2 _).out
  repeat (first
    | (apply Ry.lex_free rfl rfl; focus (intro _; go_simp; first | done | rfl))
    | (apply Ry.lex_look rfl rfl rfl rfl; focus (intro W hW; have l1 := HL.out W hW; have l2 := HS.out W hW; clear hW; go_simp; first | done | rfl)))
  refine Ry.lex_call (C' := (· = w.drew.alloc (.cells #[.int .u16 s] 22))) (v := .int .u32 (Z : Nat)) (f := 22) (args := #[.int .u16 la, .pointer (some ⟨w.heap.size, 0, none⟩)]) rfl ?_ ?_ (fun W hW => ⟨hW ▸ hW1.out, trivial⟩) ?_
  · intro Z hZ; clear hZ; go_simp; first | done | rfl | exact ⟨rfl, rfl⟩
  · intro Z hZ
    subst hZ
    exact (c3 (w.drew.alloc (.cells #[.int .u16 s] 22)) (heap_alloc_new w.drew _)).out.mono (fun e w' h => ⟨h.1, h.2.symm⟩)
  repeat (first
    | (apply Ry.lex_free rfl rfl; focus (intro _; go_simp; first | done | rfl))
    | (apply Ry.lex_look rfl rfl rfl rfl; focus (intro W hW; have l1 := HL.out W hW; have l2 := HS.out W hW; clear hW; go_simp; first | done | rfl)))
  refine Ry.lex_store rfl rfl (C' := (· = (w.drew.alloc (.cells #[.int .u16 s] 22)).setCell ⟨B, 2, none⟩ (.int .u32 ((M ||| Z : Nat) : Int)))) (D' := fun _ => True) (fun W hW => ⟨_, ?_, rfl⟩) (fun _ _ => ⟨trivial, trivial⟩) ?_
  focus (subst hW; have f2 := (HB.out.alloc (.cells #[.int .u16 s] 22)).free 2; have k2 := HS.out _ (HB.out.alloc (.cells #[.int .u16 s] 22)); rw [← hor]; go_simp; first | done | rfl)
  refine Ry.lex_end fun W2 hW2 => ?_
  simp only [Act.put, List.setIfInBounds_toArray, List.set_cons_succ, List.set_cons_zero]
  have B2 := Lib.hid (show Box W2 B 48 (Sr.H.cells ⟨true, la, M ||| Z⟩) from hW2 ▸ hW1.out.put 2 _)
  have O2 := Lib.hid (show Only B w W2 from hW2 ▸ (Only.of_below ((Below.refl w.heap.size w).drew.alloc (Nat.le_refl _) _)).trans (Only.set _ 2 _))
  clear hW2 hW1 HL HS HB c1 c2 c3 hk hor
  have q0 : W2.cell? ⟨B, 0, none⟩ = some (.bool true) := B2.out.cell 0
  have f0 := B2.out.free 0
  have q2 : (W2.setCell ⟨B, 0, none⟩ (.bool true)).cell? ⟨B, 1, none⟩ = some (.int .u16 la) := (B2.out.put 0 (.bool true)).cell 1
  have f2 := (B2.out.put 0 (.bool true)).free 1
  have HE := Lib.hid (show Box _ B 48 (Sr.H.cells ⟨true, s, M ||| Z⟩) from (B2.out.put 0 (.bool true)).put 1 (.int .u16 s))
  have HO := Lib.hid (O2.out.trans ((Only.set (B := B) W2 0 (.bool true)).trans (Only.set (W2.setCell ⟨B, 0, none⟩ (.bool true)) 1 (.int .u16 s))))
  go_wp2
  go_end0
  exact ⟨rfl, HE.out, HO.out⟩
end Go.Proofs.Ytgjkodbigdgdmaa
