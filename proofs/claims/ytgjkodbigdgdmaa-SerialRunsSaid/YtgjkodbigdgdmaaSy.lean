/-
Package serial: Note.
-/
import Derived.Test.YtgjkodbigdgdmaaSx
namespace Go.Proofs.Ytgjkodbigdgdmaa
open Go.RowKit
set_option linter.unusedVariables false

set_option maxHeartbeats 1000000 in
theorem note_nil (s : Int) (w : World) :
    Calls Try.prog 16 #[.pointer none, .int .u16 s] w fun e w' => e = .returned (.bool false) ∧ w = w' := by
  go_enter Try.func16, Try.ntmps16
  go_wp2
  go_ret
  exact ⟨rfl, rfl⟩

set_option maxHeartbeats 1000000 in
theorem note_one (la s : Int) (se B : Nat) (w : World) (hB : Box w B 48 (Sr.H.cells ⟨false, la, se⟩)) :
    Calls Try.prog 16 #[.pointer (some ⟨B, 0, none⟩), .int .u16 s] w fun e w' => e = .returned (.bool true) ∧ Box w' B 48 (Sr.H.cells ⟨true, s, se⟩) ∧ Only B w w' := by
  have q0 : w.cell? ⟨B, 0, none⟩ = some (.bool false) := hB.cell 0
  have cg := Lib.hid (goon_first la s se B w hB)
  clear hB
  go_enter Try.func16, Try.ntmps16
  go_wp2_with (go_at_call 21; ((with_reducible refine ((cg).out).mono ?_); rintro e w1 ⟨rfl, hb, ho⟩; have HB := Lib.hid hb; have HO := Lib.hid ho; clear hb ho))
  go_ret
  exact ⟨rfl, HB.out, HO.out⟩

set_option maxHeartbeats 1000000 in
theorem note_on (la s : Int) (se B : Nat) (hse : se < 4294967296) (hd : 0 < Sr.way la s) (w : World) (hB : Box w B 48 (Sr.H.cells ⟨true, la, se⟩)) :
    Calls Try.prog 16 #[.pointer (some ⟨B, 0, none⟩), .int .u16 s] w fun e w' => e = .returned (.bool true) ∧ Box w' B 48 (Sr.H.cells ⟨true, s, Sr.up se (Sr.way la s)⟩) ∧ Only B w w' := by
  have q0 : w.cell? ⟨B, 0, none⟩ = some (.bool true) := hB.cell 0
  have q1 : w.cell? ⟨B, 1, none⟩ = some (.int .u16 la) := hB.cell 1
  have cg := Lib.hid (goon_ahead la s se B hse hd w hB)
  have ca := fun X => Lib.hid (serahead_any s la X)
  rw [decide_eq_true hd] at ca
  clear hB hd
  generalize Sr.way la s = d at *
  generalize Sr.up se d = M at *
  go_enter Try.func16, Try.ntmps16
  go_wp2_with (first | (go_at_call 12; ((with_reducible refine ((ca _).out).mono ?_); rintro e w1 ⟨rfl, rfl⟩)) | (go_at_call 21; ((with_reducible refine ((cg).out).mono ?_); rintro e w1 ⟨rfl, hb, ho⟩; have HB := Lib.hid hb; have HO := Lib.hid ho; clear hb ho)))
  go_ret
  exact ⟨rfl, HB.out, HO.out⟩

set_option maxHeartbeats 1000000 in
theorem note_far (la s : Int) (se B : Nat) (hse : se < 4294967296) (hd : ¬ 0 < Sr.way la s) (hz : Sr.bitN (Sr.way s la) = 0) (w : World) (hB : Box w B 48 (Sr.H.cells ⟨true, la, se⟩)) :
    Calls Try.prog 16 #[.pointer (some ⟨B, 0, none⟩), .int .u16 s] w fun e w' => e = .returned (.bool false) ∧ Box w' B 48 (Sr.H.cells ⟨true, la, se⟩) ∧ Only B w w' := by
  have q0 : w.cell? ⟨B, 0, none⟩ = some (.bool true) := hB.cell 0
  have q1 : w.cell? ⟨B, 1, none⟩ = some (.int .u16 la) := hB.cell 1
  have W1 := hB.alloc (.cells #[.int .u16 la] 22)
  have q2 : (w.alloc (.cells #[.int .u16 la] 22)).cell? ⟨B, 2, none⟩ = some (.int .u32 (se : Nat)) := W1.cell 2
  have f2 := W1.free 2
  have c2 := fun X => Lib.hid (serbits_any la X)
  have c3 := Lib.hid (serbit_any la s w.heap.size (w.alloc (.cells #[.int .u16 la] 22)) (heap_alloc_new w _))
  have ca := fun X => Lib.hid (serahead_any s la X)
  rw [decide_eq_false hd] at ca
  have hand := u32_and_nat se (Sr.bitN (Sr.way s la)) hse (Sr.bitN_lt _)
  have hor := u32_or_nat se (Sr.bitN (Sr.way s la)) hse (Sr.bitN_lt _)
  have HE := Lib.hid W1
  have HO := Lib.hid (Only.of_below (B := B) (one_below w (.cells #[.int .u16 la] 22)))
  clear W1
  clear hB hd
  generalize Sr.way la s = d at *
  generalize Sr.bitN (Sr.way s la) = Z at *
  go_enter Try.func16, Try.ntmps16
  go_wp2_with (first | (go_at_call 12; ((with_reducible refine ((ca _).out).mono ?_); rintro e w1 ⟨rfl, rfl⟩)) | (go_at_call 20; ((with_reducible refine ((c2 _).out).mono ?_); rintro e w1 ⟨rfl, rfl⟩)) | (go_at_call 22; ((with_reducible refine ((c3).out).mono ?_); rintro e w1 ⟨rfl, rfl⟩)))
  all_goals
    go_ret
    exact ⟨rfl, HE.out, HO.out⟩

set_option maxHeartbeats 1000000 in
theorem note_came (la s : Int) (se B : Nat) (hse : se < 4294967296) (hd : ¬ 0 < Sr.way la s) (hz : Sr.bitN (Sr.way s la) ≠ 0) (hh : se &&& Sr.bitN (Sr.way s la) ≠ 0) (w : World) (hB : Box w B 48 (Sr.H.cells ⟨true, la, se⟩)) :
    Calls Try.prog 16 #[.pointer (some ⟨B, 0, none⟩), .int .u16 s] w fun e w' => e = .returned (.bool false) ∧ Box w' B 48 (Sr.H.cells ⟨true, la, se⟩) ∧ Only B w w' := by
  have q0 : w.cell? ⟨B, 0, none⟩ = some (.bool true) := hB.cell 0
  have q1 : w.cell? ⟨B, 1, none⟩ = some (.int .u16 la) := hB.cell 1
  have W1 := hB.alloc (.cells #[.int .u16 la] 22)
  have q2 : (w.alloc (.cells #[.int .u16 la] 22)).cell? ⟨B, 2, none⟩ = some (.int .u32 (se : Nat)) := W1.cell 2
  have f2 := W1.free 2
  have c2 := fun X => Lib.hid (serbits_any la X)
  have c3 := Lib.hid (serbit_any la s w.heap.size (w.alloc (.cells #[.int .u16 la] 22)) (heap_alloc_new w _))
  have ca := fun X => Lib.hid (serahead_any s la X)
  rw [decide_eq_false hd] at ca
  have hand := u32_and_nat se (Sr.bitN (Sr.way s la)) hse (Sr.bitN_lt _)
  have hor := u32_or_nat se (Sr.bitN (Sr.way s la)) hse (Sr.bitN_lt _)
  have HE := Lib.hid W1
  have HO := Lib.hid (Only.of_below (B := B) (one_below w (.cells #[.int .u16 la] 22)))
  have hz' : (((Sr.bitN (Sr.way s la) : Nat) : Int) == 0) = false := by simpa using hz
  have hh' : ((((se &&& Sr.bitN (Sr.way s la)) : Nat) : Int) != 0) = true := by simpa using hh
  clear W1 hz hh hor
  generalize se &&& Sr.bitN (Sr.way s la) = Y at *
  clear hB hd
  generalize Sr.way la s = d at *
  generalize Sr.bitN (Sr.way s la) = Z at *
  go_enter Try.func16, Try.ntmps16
  go_wp2_with (first | (go_at_call 12; ((with_reducible refine ((ca _).out).mono ?_); rintro e w1 ⟨rfl, rfl⟩)) | (go_at_call 20; ((with_reducible refine ((c2 _).out).mono ?_); rintro e w1 ⟨rfl, rfl⟩)) | (go_at_call 22; ((with_reducible refine ((c3).out).mono ?_); rintro e w1 ⟨rfl, rfl⟩)))
  all_goals
    go_ret
    exact ⟨rfl, HE.out, HO.out⟩

set_option maxHeartbeats 1000000 in
theorem note_late (la s : Int) (se B : Nat) (hse : se < 4294967296) (hd : ¬ 0 < Sr.way la s) (hz : Sr.bitN (Sr.way s la) ≠ 0) (hh : se &&& Sr.bitN (Sr.way s la) = 0) (w : World) (hB : Box w B 48 (Sr.H.cells ⟨true, la, se⟩)) :
    Calls Try.prog 16 #[.pointer (some ⟨B, 0, none⟩), .int .u16 s] w fun e w' => e = .returned (.bool true) ∧ Box w' B 48 (Sr.H.cells ⟨true, la, se ||| Sr.bitN (Sr.way s la)⟩) ∧ Only B w w' := by
  have q0 : w.cell? ⟨B, 0, none⟩ = some (.bool true) := hB.cell 0
  have q1 : w.cell? ⟨B, 1, none⟩ = some (.int .u16 la) := hB.cell 1
  have W1 := hB.alloc (.cells #[.int .u16 la] 22)
  have q2 : (w.alloc (.cells #[.int .u16 la] 22)).cell? ⟨B, 2, none⟩ = some (.int .u32 (se : Nat)) := W1.cell 2
  have f2 := W1.free 2
  have c2 := fun X => Lib.hid (serbits_any la X)
  have c3 := Lib.hid (serbit_any la s w.heap.size (w.alloc (.cells #[.int .u16 la] 22)) (heap_alloc_new w _))
  have ca := fun X => Lib.hid (serahead_any s la X)
  rw [decide_eq_false hd] at ca
  have hand := u32_and_nat se (Sr.bitN (Sr.way s la)) hse (Sr.bitN_lt _)
  have hor := u32_or_nat se (Sr.bitN (Sr.way s la)) hse (Sr.bitN_lt _)
  have HE := Lib.hid (show Box ((w.alloc (.cells #[.int .u16 la] 22)).setCell ⟨B, 2, none⟩ (.int .u32 ((se ||| Sr.bitN (Sr.way s la) : Nat) : Int))) B 48 (Sr.H.cells ⟨true, la, se ||| Sr.bitN (Sr.way s la)⟩) from W1.put 2 _)
  have HO := Lib.hid ((Only.of_below (B := B) (one_below w (.cells #[.int .u16 la] 22))).trans (Only.set _ 2 (.int .u32 ((se ||| Sr.bitN (Sr.way s la) : Nat) : Int))))
  have hz' : (((Sr.bitN (Sr.way s la) : Nat) : Int) == 0) = false := by simpa using hz
  have hh' : ((((se &&& Sr.bitN (Sr.way s la)) : Nat) : Int) != 0) = false := by simpa using hh
  clear W1 hz hh
  generalize se &&& Sr.bitN (Sr.way s la) = Y at *
  generalize se ||| Sr.bitN (Sr.way s la) = M at *
  clear hB hd
  generalize Sr.way la s = d at *
  generalize Sr.bitN (Sr.way s la) = Z at *
  go_enter Try.func16, Try.ntmps16
  go_wp2_with (first | (go_at_call 12; ((with_reducible refine ((ca _).out).mono ?_); rintro e w1 ⟨rfl, rfl⟩)) | (go_at_call 20; ((with_reducible refine ((c2 _).out).mono ?_); rintro e w1 ⟨rfl, rfl⟩)) | (go_at_call 22; ((with_reducible refine ((c3).out).mono ?_); rintro e w1 ⟨rfl, rfl⟩)))
  all_goals
    go_ret
    exact ⟨rfl, HE.out, HO.out⟩

/-- All the ways. -/
theorem note_any (h : Sr.H) (ho : h.Ok) (s : Int) (B : Nat) (w : World) (hB : Box w B 48 h.cells) :
    Calls Try.prog 16 #[.pointer (some ⟨B, 0, none⟩), .int .u16 s] w fun e w' => e = .returned (.bool (Sr.fresh h s)) ∧ Box w' B 48 (Sr.note h s).cells ∧ Only B w w' := by
  obtain ⟨so, la, se⟩ := h
  cases so
  · obtain ⟨e1, e2⟩ := Sr.note_first (h := ⟨false, la, se⟩) rfl s
    rw [e1, e2]
    exact note_one la s se B w hB
  · by_cases hd : 0 < Sr.way la s
    · obtain ⟨e1, e2⟩ := Sr.note_ahead (h := ⟨true, la, se⟩) rfl hd
      rw [e1, e2]
      exact note_on la s se B ho.seen hd w hB
    · by_cases hz : Sr.bitN (Sr.way s la) = 0
      · obtain ⟨e1, e2⟩ := Sr.note_old (h := ⟨true, la, se⟩) rfl hd (.inl hz)
        rw [e1, e2]
        exact note_far la s se B ho.seen hd hz w hB
      · by_cases hh : se &&& Sr.bitN (Sr.way s la) = 0
        · have hn := Sr.has_and se (Sr.way s la)
          rw [decide_eq_false (by rw [hh]; simp)] at hn
          obtain ⟨e1, e2⟩ := Sr.note_behind (h := ⟨true, la, se⟩) rfl hd hz hn.symm
          rw [e1, e2]
          exact note_late la s se B ho.seen hd hz hh w hB
        · have hn := Sr.has_and se (Sr.way s la)
          rw [decide_eq_true hh] at hn
          obtain ⟨e1, e2⟩ := Sr.note_old (h := ⟨true, la, se⟩) rfl hd (.inr hn.symm)
          rw [e1, e2]
          exact note_came la s se B ho.seen hd hz hh w hB
end Go.Proofs.Ytgjkodbigdgdmaa
