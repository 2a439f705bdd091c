/-
Several texts in one: Ic Nl Id Ie If Im In Nr En Ed Bd Op Ec Ee Zb Zsh Sha Ig Eq.
-/
import Derived.Test.YtiahpncglpfjeaaGreatFq5
namespace Go.Proofs.YtiahpncglpfjeaaGreat
open Go.RowKit Go.Shelf
set_option linter.unusedVariables false

theorem setCell_noop {w : World} {P o : Nat} {t : TypeId} {cs : Array Value} {u : Value} (h : Box w P t cs) (ho : cs[o]? = some u) (k : Nat) : (w.setCell ⟨P, o, none⟩ u).heap[k]? = w.heap[k]? := by
  by_cases e : k = P
  · subst e
    rw [(h.put o u).is, h.is]
    congr 2
    obtain ⟨hlt, he⟩ := Array.getElem?_eq_some_iff.1 ho
    apply Array.ext
    · simp
    · intro i h1 h2
      rw [Array.getElem_setIfInBounds]
      split
      · rename_i e; subst e; exact he.symm
      · rfl
  · exact heap_setCell_other w ⟨P, o, none⟩ k u e
section
variable {b Bb Bp : Nat} {bs : List Int} {w0 w : World}
theorem Wrote.noop {P o : Nat} {t : TypeId} {cs : Array Value} {u : Value} (h : Wrote b Bb w0 w) (hB : Box w P t cs) (ho : cs[o]? = some u) : Wrote b Bb w0 (w.setCell ⟨P, o, none⟩ u) := by
  have hz := (Below.refl 0 w).setCell (p := ⟨P, o, none⟩) (Nat.zero_le _) u
  exact ⟨hz.os.trans h.os, hz.tape.trans h.tape, hz.output.trans h.output, Nat.le_trans h.size hz.size, h.low, fun k hk hc => (setCell_noop hB ho k).trans (h.block k hk hc)⟩
/-- A block that is none of the writer's stays. -/
theorem Box.wrote' {g : Nat} {t : TypeId} {cs : Array Value} (h : Box w0 g t cs) (k : Wrote b Bb w0 w) (hv : ∃ A n c, Box w0 Bb 72 #[.slice A n c]) (h1 : t ≠ 72) (h2 : t ≠ 5) : Box w g t cs := by
  obtain ⟨A, n, c, hv⟩ := hv
  exact h.wrote k (Box.apart h hv h1) h2
theorem Wr.isvar (h : Wr b Bb Bp bs w) : ∃ A n c, Box w Bb 72 #[.slice A n c] := by
  obtain ⟨_, A, c, h, _⟩ := h
  exact ⟨A, _, c, h⟩
end

set_option maxRecDepth 100000 in
set_option maxHeartbeats 1000000 in
theorem layint_w (size : Nat) (z : Int) (hz : z = size) (x : Int) (P o : Nat) (t : TypeId) (cs : Array Value) (bs : List Int) (b Bb Bp : Nat) (w : World) (hs : size ≤ 8) (hx : -9223372036854775808 ≤ x ∧ x ≤ 9223372036854775807) (hbB : b ≤ Bb) (h : Wr b Bb Bp bs w) (hl : bs.length + size ≤ 65536) (hP : Box w P t cs) (ho : cs[o]? = some (.int .i64 x)) (h1 : t ≠ 72) (h2 : t ≠ 5) (h3 : t ≠ 115) :
    Calls Tryz.prog 112 #[.func (.func 118) #[] #[.pointer (some ⟨Bp, 0, none⟩)], .int .i64 z, .pointer (some ⟨P, o, none⟩)] w fun e w' => e = .returned (.tuple #[]) ∧ Wr b Bb Bp (bs ++ Im.bytesOf size (IntKind.u64.wrap x)) w' ∧ Wrote b Bb w w' := by
  subst hz
  have hwb : IntKind.i64.wrap (IntKind.u64.wrap x) = x := by rw [IntKind.wrap_i64, IntKind.wrap_u64]; omega
  have hvr : 0 ≤ IntKind.u64.wrap x ∧ IntKind.u64.wrap x ≤ 18446744073709551615 := by rw [IntKind.wrap_u64]; omega
  obtain ⟨v, hv⟩ : ∃ v, v = IntKind.u64.wrap x := ⟨_, rfl⟩
  rw [← hv] at hwb hvr ⊢
  have cw := Lib.hid (write_any size v bs b Bb Bp w hs hvr hbB h hl)
  have HH := Lib.hid h
  have HP := Lib.hid hP
  have hvv : IntKind.u64.wrap x = v := hv.symm
  clear hv
  have k0 := hP.cell o
  rw [ho] at k0
  have HO := Lib.hid ho
  clear h hP ho
  go_enter Tryz.func112, Tryz.ntmps112
  go_wp2_with (go_at_call 118; ((with_reducible refine (cw.out).mono ?_); rintro e w1 ⟨rfl, hI1, hK1⟩; have P1 := Lib.hid (HP.out.wrote' hK1 HH.out.isvar h1 h2); have I1 := Lib.hid hI1; have K1 := Lib.hid hK1; have k1 := P1.out.cell o; rw [HO.out] at k1; have f1 := P1.out.free o; clear hI1 hK1 k0))
  go_end0
  exact ⟨rfl, I1.out.off (p := ⟨P, o, none⟩) P1.out h3 h1 h2 _, K1.out.noop P1.out HO.out⟩

set_option maxRecDepth 100000 in
set_option maxHeartbeats 1000000 in
theorem layu64_w (size : Nat) (z : Int) (hz : z = size) (x : Int) (P o : Nat) (t : TypeId) (cs : Array Value) (bs : List Int) (b Bb Bp : Nat) (w : World) (hs : size ≤ 8) (hx : 0 ≤ x ∧ x ≤ 18446744073709551615) (hbB : b ≤ Bb) (h : Wr b Bb Bp bs w) (hl : bs.length + size ≤ 65536) (hP : Box w P t cs) (ho : cs[o]? = some (.int .u64 x)) (h1 : t ≠ 72) (h2 : t ≠ 5) (h3 : t ≠ 115) :
    Calls Tryz.prog 113 #[.func (.func 118) #[] #[.pointer (some ⟨Bp, 0, none⟩)], .int .i64 z, .pointer (some ⟨P, o, none⟩)] w fun e w' => e = .returned (.tuple #[]) ∧ Wr b Bb Bp (bs ++ Im.bytesOf size (x)) w' ∧ Wrote b Bb w w' := by
  subst hz
  have hvr := hx
  obtain ⟨v, hv⟩ : ∃ v, v = x := ⟨_, rfl⟩
  rw [← hv] at hvr ⊢
  have cw := Lib.hid (write_any size v bs b Bb Bp w hs hvr hbB h hl)
  have HH := Lib.hid h
  have HP := Lib.hid hP
  subst hv
  have k0 := hP.cell o
  rw [ho] at k0
  have HO := Lib.hid ho
  clear h hP ho
  go_enter Tryz.func113, Tryz.ntmps113
  go_wp2_with (go_at_call 118; ((with_reducible refine (cw.out).mono ?_); rintro e w1 ⟨rfl, hI1, hK1⟩; have P1 := Lib.hid (HP.out.wrote' hK1 HH.out.isvar h1 h2); have I1 := Lib.hid hI1; have K1 := Lib.hid hK1; have k1 := P1.out.cell o; rw [HO.out] at k1; have f1 := P1.out.free o; clear hI1 hK1 k0))
  go_end0
  exact ⟨rfl, I1.out.off (p := ⟨P, o, none⟩) P1.out h3 h1 h2 _, K1.out.noop P1.out HO.out⟩

set_option maxRecDepth 100000 in
set_option maxHeartbeats 1000000 in
theorem layi32_w (size : Nat) (z : Int) (hz : z = size) (x : Int) (P o : Nat) (t : TypeId) (cs : Array Value) (bs : List Int) (b Bb Bp : Nat) (w : World) (hs : size ≤ 8) (hx : -2147483648 ≤ x ∧ x ≤ 2147483647) (hbB : b ≤ Bb) (h : Wr b Bb Bp bs w) (hl : bs.length + size ≤ 65536) (hP : Box w P t cs) (ho : cs[o]? = some (.int .i32 x)) (h1 : t ≠ 72) (h2 : t ≠ 5) (h3 : t ≠ 115) :
    Calls Tryz.prog 146 #[.func (.func 118) #[] #[.pointer (some ⟨Bp, 0, none⟩)], .int .i64 z, .pointer (some ⟨P, o, none⟩)] w fun e w' => e = .returned (.tuple #[]) ∧ Wr b Bb Bp (bs ++ Im.bytesOf size (IntKind.u64.wrap x)) w' ∧ Wrote b Bb w w' := by
  subst hz
  have hwb : IntKind.i32.wrap (IntKind.u64.wrap x) = x := by rw [IntKind.wrap_i32, IntKind.wrap_u64]; omega
  have hvr : 0 ≤ IntKind.u64.wrap x ∧ IntKind.u64.wrap x ≤ 18446744073709551615 := by rw [IntKind.wrap_u64]; omega
  obtain ⟨v, hv⟩ : ∃ v, v = IntKind.u64.wrap x := ⟨_, rfl⟩
  rw [← hv] at hwb hvr ⊢
  have cw := Lib.hid (write_any size v bs b Bb Bp w hs hvr hbB h hl)
  have HH := Lib.hid h
  have HP := Lib.hid hP
  have hvv : IntKind.u64.wrap x = v := hv.symm
  clear hv
  have k0 := hP.cell o
  rw [ho] at k0
  have HO := Lib.hid ho
  clear h hP ho
  go_enter Tryz.func146, Tryz.ntmps146
  go_wp2_with (go_at_call 118; ((with_reducible refine (cw.out).mono ?_); rintro e w1 ⟨rfl, hI1, hK1⟩; have P1 := Lib.hid (HP.out.wrote' hK1 HH.out.isvar h1 h2); have I1 := Lib.hid hI1; have K1 := Lib.hid hK1; have k1 := P1.out.cell o; rw [HO.out] at k1; have f1 := P1.out.free o; clear hI1 hK1 k0))
  go_end0
  exact ⟨rfl, I1.out.off (p := ⟨P, o, none⟩) P1.out h3 h1 h2 _, K1.out.noop P1.out HO.out⟩
end Go.Proofs.YtiahpncglpfjeaaGreat
namespace Go.Proofs.YtiahpncglpfjeaaGreat
open Go.RowKit Go.Shelf
set_option linter.unusedVariables false
set_option linter.unusedSimpArgs false

theorem need_yes (s : ByteArray) (w : World) : Calls Tryz.prog 72 #[.bool true, .string s] w fun e w' => e = .returned (.tuple #[]) ∧ w = w' := by
  go_enter Tryz.func72, Tryz.ntmps72
  go_wp2
  go_end0
  exact ⟨rfl, rfl⟩

theorem need_no (s : ByteArray) (w : World) : Calls Tryz.prog 72 #[.bool false, .string s] w fun e w' => e = .panicked [{ v := .iface 9 (.string s), recovered := false }] ∧ w = w' := by
  go_enter Tryz.func72, Tryz.ntmps72
  go_wp2
  first | exact ⟨rfl, rfl, rfl⟩ | exact ⟨rfl, rfl⟩

theorem Wr.nil {b Bb Bp : Nat} {W : World} (h1 : Box W Bp 115 #[.pointer (some ⟨Bb, 0, none⟩)]) (h2 : Box W Bb 72 #[.slice none 0 0]) : Wr b Bb Bp [] W :=
  ⟨h1, none, 0, h2, World.ownsRow_nil _ _ _ _⟩

theorem writer_any (p : Addr) (w : World) : Calls Tryz.prog 75 #[.pointer (some p)] w fun e w' => e = .returned (.func (.func 118) #[] #[.pointer (some ⟨w.heap.size, 0, none⟩)]) ∧ w' = w.alloc (.cells #[.pointer (some p)] 115) := by
  have hmf : ∀ (fn : Fn) (first cap : Array Value) (w : World), (Instr.makeFunc fn first cap).run Tryz.prog w = .ok (.func fn first cap) w := fun _ _ _ _ => rfl
  go_enter Tryz.func75, Tryz.ntmps75
  go_wp2
  go_ret
  exact ⟨rfl, rfl⟩

/-- All blocks but B, b's variable and rows of bytes stay. -/
def Kb (B : Nat) (w w' : World) : Prop := ∀ g t cs, Box w g t cs → g ≠ B → t ≠ 72 → t ≠ 5 → Box w' g t cs
section
variable {B b Bb Bp : Nat} {bs : List Int} {w w' w'' : World}
theorem Kb.refl (w : World) : Kb B w w := fun _ _ _ h _ _ _ => h
theorem Kb.trans (h : Kb B w w') (k : Kb B w' w'') : Kb B w w'' := fun g t cs hg hne h1 h2 => k g t cs (h g t cs hg hne h1 h2) hne h1 h2
theorem Kb.call (h : Kb B w w') (hb : Below w'.heap.size w' w'') : Kb B w w'' := fun g t cs hg hne h1 h2 => (h g t cs hg hne h1 h2).below hb (h g t cs hg hne h1 h2).lt
theorem Kb.wrote (h : Kb B w w') (hW : Wrote b Bb w' w'') (hv : ∃ A n c, Box w' Bb 72 #[.slice A n c]) : Kb B w w'' := fun g t cs hg hne h1 h2 => (h g t cs hg hne h1 h2).wrote' hW hv h1 h2
theorem Kb.put (h : Kb B w w') (i : Nat) (u : Value) : Kb B w (w'.setCell ⟨B, i, none⟩ u) := fun g t cs hg hne h1 h2 => (h g t cs hg hne h1 h2).far (p := ⟨B, i, none⟩) hne u
theorem Kb.row (h : Kb B w w') {S : Nat} (hS : w.heap.size ≤ S) (cs' : Array Value) : Kb B w (w'.setRow S cs') := fun g t cs hg hne h1 h2 => (h g t cs hg hne h1 h2).row_far (by have := hg.lt; omega) cs'
end
end Go.Proofs.YtiahpncglpfjeaaGreat
namespace Go.Proofs.YtiahpncglpfjeaaGreat
open Go.RowKit Go.Shelf
set_option linter.unusedVariables false

def Im.flight (x : Nat → Int) : Nat → List Int
  | 0 => []
  | k + 1 => Im.flight x k ++ Im.bytesOf 4 (IntKind.u64.wrap (x k))
theorem Im.flight_len (x : Nat → Int) : ∀ k, (Im.flight x k).length = 4 * k
  | 0 => rfl
  | k + 1 => by show (Im.flight x k ++ _).length = _; rw [List.length_append, Im.flight_len x k, Im.bytesOf_len]; omega

set_option maxRecDepth 100000 in
set_option maxHeartbeats 2000000 in
theorem layflight_w (x : Nat → Int) (p : Nat → Nat) (P Bq : Nat) (t : TypeId) (cs : Array Value) (bs : List Int) (b Bb Bp : Nat) (w : World) (hx : ∀ k, k < 4 → -2147483648 ≤ x k ∧ x k ≤ 2147483647) (hbB : b ≤ Bb) (h : Wr b Bb Bp bs w) (hl : bs.length + 16 ≤ 65536) (hP : Box w P t cs) (ho : ∀ k, k < 4 → cs[p k]? = some (.int .i32 (x k))) (h1 : t ≠ 72) (h2 : t ≠ 5) (h3 : t ≠ 115)
    (hq : Box w Bq 168 #[.pointer (some ⟨P, p 0, none⟩), .pointer (some ⟨P, p 1, none⟩), .pointer (some ⟨P, p 2, none⟩), .pointer (some ⟨P, p 3, none⟩)]) (c : Nat) :
    Calls Tryz.prog 137 #[.func (.func 118) #[] #[.pointer (some ⟨Bp, 0, none⟩)], .slice (some ⟨Bq, 0, none⟩) 4 c] w fun e w' => e = .returned (.tuple #[]) ∧ Wr b Bb Bp (bs ++ Im.flight x 4) w' ∧ Wrote b Bb w w' := by
  have HH := Lib.hid h
  have HP := Lib.hid hP
  have HQ := Lib.hid hq
  clear h hP hq
  go_enter Tryz.func137, Tryz.ntmps137
  go_wp2
  go_loopw [8] (fun i wr => ∃ k : Nat, k ≤ 4 ∧ i = .int .i64 k ∧ Wr b Bb Bp (bs ++ Im.flight x k) wr ∧ Wrote b Bb w wr) (fun i _ => 4 - (intOf i).toNat)
  case atStart => exact ⟨0, by omega, rfl, by simpa [Im.flight] using HH.out, Wrote.refl hbB w⟩
  case round =>
    obtain ⟨k, hk, rfl, hI, hK⟩ := hrel
    by_cases hlt : k < 4
    · have hk8 : (k : Int) < 4 := by omega
      have P1 := HP.out.wrote' hK HH.out.isvar h1 h2
      have Q1 := HQ.out.wrote' hK HH.out.isvar (by decide) (by decide)
      have qc := Q1.cell k
      have hqk : (#[.pointer (some ⟨P, p 0, none⟩), .pointer (some ⟨P, p 1, none⟩), .pointer (some ⟨P, p 2, none⟩), .pointer (some ⟨P, p 3, none⟩)] : Array Value)[k]? = some (.pointer (some ⟨P, p k, none⟩)) := by
        match k, hlt with
        | 0, _ | 1, _ | 2, _ | 3, _ => rfl
      rw [hqk] at qc
      have cl := Lib.hid (layi32_w 4 4 rfl (x k) P (p k) t cs (bs ++ Im.flight x k) b Bb Bp wr (by decide) (hx k hlt) hbB hI (by rw [List.length_append, Im.flight_len]; omega) P1 (ho k hlt) h1 h2 h3)
      rw [List.append_assoc, show Im.flight x k ++ Im.bytesOf 4 (IntKind.u64.wrap (x k)) = Im.flight x (k + 1) from rfl] at cl
      have HK := Lib.hid hK
      clear hI hK P1 Q1 hqk
      go_wp2_with (go_at_call 146; ((with_reducible refine (cl.out).mono ?_); rintro e w1 ⟨rfl, hI1, hK1⟩; have I1 := Lib.hid hI1; have K1 := Lib.hid (HK.out.trans hK1); clear hI1 hK1 qc))
      go_roundw
      case rel => exact ⟨k + 1, by omega, by go_num, I1.out, K1.out⟩
      case measure => simp [intOf]; omega
    · have hk8 : ¬ (k : Int) < 4 := by omega
      obtain rfl : k = 4 := by omega
      have HI := Lib.hid hI
      have HK := Lib.hid hK
      clear hI hK
      go_wp2
      go_end0
      exact ⟨rfl, HI.out, HK.out⟩

set_option maxRecDepth 100000 in
set_option maxHeartbeats 2000000 in
theorem layseat_w (pe g : Int) (P o : Nat) (t : TypeId) (cs : Array Value) (bs : List Int) (b Bb Bp : Nat) (w : World) (hpe : -1 ≤ pe ∧ pe ≤ 60000) (hg : 0 ≤ g ∧ g ≤ 60000) (hbB : b ≤ Bb) (h : Wr b Bb Bp bs w) (hl : bs.length + 3 ≤ 65536) (hP : Box w P t cs) (ho : cs[o]? = some (.int .i64 pe)) (ho1 : cs[o + 1]? = some (.int .i64 g)) (h1 : t ≠ 72) (h2 : t ≠ 5) (h3 : t ≠ 115) :
    Calls Tryz.prog 117 #[.func (.func 118) #[] #[.pointer (some ⟨Bp, 0, none⟩)], .pointer (some ⟨P, o, none⟩)] w fun e w' => e = .returned (.tuple #[]) ∧ Wr b Bb Bp (bs ++ (Im.bytesOf 1 (pe + 1) ++ Im.bytesOf 2 g)) w' ∧ Wrote b Bb w w' := by
  have hw1 : IntKind.i64.wrap (pe + 1) = pe + 1 := by rw [IntKind.wrap_i64]; omega
  have hw2 : IntKind.u64.wrap (pe + 1) = pe + 1 := by rw [IntKind.wrap_u64]; omega
  have hw3 : IntKind.u64.wrap g = g := by rw [IntKind.wrap_u64]; omega
  have hw4 : IntKind.i64.wrap (pe + 1 - 1) = pe := by rw [IntKind.wrap_i64]; omega
  have k0 := hP.cell o
  rw [ho] at k0
  have HP := Lib.hid hP
  have HL := Lib.hid (Box.made w 3 #[.int .i64 (pe + 1)])
  have HPA := Lib.hid (hP.alloc (.cells #[.int .i64 (pe + 1)] 3))
  have HA := Lib.hid (h.alloc (.cells #[.int .i64 (pe + 1)] 3))
  have WA := Lib.hid ((Wrote.refl hbB w).alloc (.cells #[.int .i64 (pe + 1)] 3))
  have c1 := Lib.hid (layint_w 1 1 rfl (pe + 1) w.heap.size 0 3 #[.int .i64 (pe + 1)] bs b Bb Bp _ (by decide) (by omega) hbB HA.out (by omega) HL.out rfl (by decide) (by decide) (by decide))
  have c2 := fun X (hX : Wr b Bb Bp (bs ++ Im.bytesOf 1 (pe + 1)) X) (hB : Box X P t cs) => Lib.hid (layint_w 2 2 rfl g P (o + 1) t cs (bs ++ Im.bytesOf 1 (pe + 1)) b Bb Bp X (by decide) (by omega) hbB hX (by rw [List.length_append, Im.bytesOf_len]; omega) hB ho1 h1 h2 h3)
  rw [hw2] at c1
  rw [hw3] at c2
  have hvar := Lib.hid HA.out.isvar
  have HO := Lib.hid ho
  have ltP := hP.lt
  clear h hP ho ho1 hw2 hw3
  go_enter Tryz.func117, Tryz.ntmps117
  go_upto_region 3 with (go_at_call 112; ((with_reducible refine (c1.out).mono ?_); rintro e w1 ⟨rfl, hI1, hK1⟩; have L1 := HL.out.wrote' hK1 hvar.out (by decide) (by decide); have l1 := L1.cell 0; have P1 := Lib.hid (HPA.out.wrote' hK1 hvar.out h1 h2); have p1 := P1.out.cell o; rw [HO.out] at p1; have f1 := P1.out.free o; have I1 := Lib.hid hI1; have K1 := Lib.hid (WA.out.trans hK1); clear hI1 hK1 L1 k0))
  obtain ⟨U, hU⟩ : ∃ U, U = w1.setCell ⟨P, o, none⟩ (.int .i64 pe) := ⟨_, rfl⟩
  have IU : Wr b Bb Bp (bs ++ Im.bytesOf 1 (pe + 1)) U := by rw [hU]; exact I1.out.off (p := ⟨P, o, none⟩) P1.out h3 h1 h2 _
  have KU : Wrote b Bb w U := by rw [hU]; exact K1.out.noop P1.out HO.out
  have PU : Box U P t cs := ⟨by rw [hU, setCell_noop P1.out HO.out]; exact P1.out.is⟩
  rw [← hU]
  have c2 := c2 U IU PU
  have KU := Lib.hid KU
  clear hU IU PU I1 K1 P1 p1 f1 l1
  go_wp2_with (go_at_call 112; ((with_reducible refine (c2.out).mono ?_); rintro e w2 ⟨rfl, hI2, hK2⟩; have I2 := Lib.hid hI2; have K2 := Lib.hid (KU.out.trans hK2); clear hI2 hK2))
  go_end0
  exact ⟨rfl, by rw [← List.append_assoc]; exact I2.out, K2.out⟩
end Go.Proofs.YtiahpncglpfjeaaGreat
namespace Go.Proofs.YtiahpncglpfjeaaGreat
open Go.RowKit Go.Shelf
set_option linter.unusedVariables false

/-- The bytes of a ship. -/
def Im.ship (s : Gm.Ship) : List Int :=
  if s.on = true then Im.bytesOf 1 1 ++ (Im.flight (fun k => match k with | 0 => s.x | 1 => s.y | 2 => s.vx | _ => s.vy) 4 ++ (Im.bytesOf 1 s.cool ++ Im.bytesOf 4 s.score)) else Im.bytesOf 1 0

set_option maxRecDepth 100000 in
set_option maxHeartbeats 2000000 in
theorem layship_off (P o : Nat) (t : TypeId) (cs : Array Value) (bs : List Int) (b Bb Bp : Nat) (w : World) (hbB : b ≤ Bb) (h : Wr b Bb Bp bs w) (hl : bs.length + 1 ≤ 65536) (hP : Box w P t cs) (ho : cs[o]? = some (.bool false)) (h1 : t ≠ 72) (h2 : t ≠ 5) (h3 : t ≠ 115) :
    Calls Tryz.prog 114 #[.func (.func 118) #[] #[.pointer (some ⟨Bp, 0, none⟩)], .pointer (some ⟨P, o, none⟩)] w fun e w' => e = .returned (.tuple #[]) ∧ Wr b Bb Bp (bs ++ Im.bytesOf 1 0) w' ∧ Wrote b Bb w w' := by
  have k0 := hP.cell o
  rw [ho] at k0
  have ltP := hP.lt
  have HL := Lib.hid (Box.made w 3 #[.int .i64 0])
  have HPA := Lib.hid (hP.alloc (.cells #[.int .i64 0] 3))
  have HA := Lib.hid (h.alloc (.cells #[.int .i64 0] 3))
  have WA := Lib.hid ((Wrote.refl hbB w).alloc (.cells #[.int .i64 0] 3))
  have c1 := Lib.hid (layint_w 1 1 rfl 0 w.heap.size 0 3 #[.int .i64 0] bs b Bb Bp _ (by decide) (by omega) hbB HA.out (by omega) HL.out rfl (by decide) (by decide) (by decide))
  rw [show IntKind.u64.wrap 0 = 0 from rfl] at c1
  have hvar := Lib.hid HA.out.isvar
  have HO := Lib.hid ho
  clear h hP ho
  go_enter Tryz.func114, Tryz.ntmps114
  go_wp2_with (first | (go_at_call 72; ((with_reducible refine (need_yes _ _).mono ?_); rintro e wn ⟨rfl, rfl⟩)) | (go_at_call 112; ((with_reducible refine (c1.out).mono ?_); rintro e w1 ⟨rfl, hI1, hK1⟩; have L1 := HL.out.wrote' hK1 hvar.out (by decide) (by decide); have l1 := L1.cell 0; have P1 := Lib.hid (HPA.out.wrote' hK1 hvar.out h1 h2); have p1 := P1.out.cell o; rw [HO.out] at p1; have f1 := P1.out.free o; have I1 := Lib.hid hI1; have K1 := Lib.hid (WA.out.trans hK1); clear hI1 hK1 L1 k0)))
  refine bodyPost_ret (results_none rfl _ _ _) rfl ?_
  exact ⟨rfl, I1.out.off (p := ⟨P, o, none⟩) P1.out h3 h1 h2 _, K1.out.noop P1.out HO.out⟩

set_option maxRecDepth 100000 in
set_option maxHeartbeats 4000000 in
theorem layship_on (x y vx vy cool score : Int) (P o : Nat) (t : TypeId) (cs : Array Value) (bs : List Int) (b Bb Bp : Nat) (w : World) (hbB : b ≤ Bb) (h : Wr b Bb Bp bs w) (hl : bs.length + 22 ≤ 65536) (hP : Box w P t cs)
    (o0 : cs[o]? = some (.bool true)) (o1 : cs[o + 1]? = some (.int .i32 x)) (o2 : cs[o + 2]? = some (.int .i32 y)) (o3 : cs[o + 3]? = some (.int .i32 vx)) (o4 : cs[o + 4]? = some (.int .i32 vy)) (o5 : cs[o + 5]? = some (.int .i64 cool)) (o6 : cs[o + 6]? = some (.int .i64 score))
    (wx : -2147483648 ≤ x ∧ x ≤ 2147483647) (wy : -2147483648 ≤ y ∧ y ≤ 2147483647) (wvx : -2147483648 ≤ vx ∧ vx ≤ 2147483647) (wvy : -2147483648 ≤ vy ∧ vy ≤ 2147483647) (wc : 0 ≤ cool ∧ cool ≤ 10) (ws : 0 ≤ score ∧ score ≤ 1073741824) (h1 : t ≠ 72) (h2 : t ≠ 5) (h3 : t ≠ 115) :
    Calls Tryz.prog 114 #[.func (.func 118) #[] #[.pointer (some ⟨Bp, 0, none⟩)], .pointer (some ⟨P, o, none⟩)] w fun e w' => e = .returned (.tuple #[]) ∧ Wr b Bb Bp (bs ++ Im.ship ⟨true, x, y, vx, vy, cool, score⟩) w' ∧ Wrote b Bb w w' := by
  have k0 := hP.cell o
  rw [o0] at k0
  have ltP := hP.lt
  have HL := Lib.hid (Box.made w 3 #[.int .i64 1])
  have HPA := Lib.hid (hP.alloc (.cells #[.int .i64 1] 3))
  have HA := Lib.hid (h.alloc (.cells #[.int .i64 1] 3))
  have WA := Lib.hid ((Wrote.refl hbB w).alloc (.cells #[.int .i64 1] 3))
  have c1 := Lib.hid (layint_w 1 1 rfl 1 w.heap.size 0 3 #[.int .i64 1] bs b Bb Bp _ (by decide) (by omega) hbB HA.out (by omega) HL.out rfl (by decide) (by decide) (by decide))
  rw [show IntKind.u64.wrap 1 = 1 from rfl] at c1
  have hvar := Lib.hid HA.out.isvar
  have HO := Lib.hid o0
  clear h hP o0
  go_enter Tryz.func114, Tryz.ntmps114
  go_upto_region 6 with (first | (go_at_call 72; ((with_reducible refine (need_yes _ _).mono ?_); rintro e wn ⟨rfl, rfl⟩)) | (go_at_call 112; ((with_reducible refine (c1.out).mono ?_); rintro e w1 ⟨rfl, hI1, hK1⟩; have L1 := HL.out.wrote' hK1 hvar.out (by decide) (by decide); have l1 := L1.cell 0; have P1 := Lib.hid (HPA.out.wrote' hK1 hvar.out h1 h2); have p1 := P1.out.cell o; rw [HO.out] at p1; have f1 := P1.out.free o; have I1 := Lib.hid hI1; have K1 := Lib.hid (WA.out.trans hK1); clear hI1 hK1 L1 k0)))
  obtain ⟨U, hU⟩ : ∃ U, U = w1.setCell ⟨P, o, none⟩ (.bool true) := ⟨_, rfl⟩
  have IU : Wr b Bb Bp (bs ++ Im.bytesOf 1 1) U := by rw [hU]; exact I1.out.off (p := ⟨P, o, none⟩) P1.out h3 h1 h2 _
  have KU : Wrote b Bb w U := by rw [hU]; exact K1.out.noop P1.out HO.out
  have PU : Box U P t cs := ⟨by rw [hU, setCell_noop P1.out HO.out]; exact P1.out.is⟩
  rw [← hU]
  have u0 := PU.cell o
  rw [HO.out] at u0
  have IU := Lib.hid IU
  have KU := Lib.hid KU
  have PU := Lib.hid PU
  clear hU I1 K1 P1 p1 f1 l1 HA HL HPA WA hvar c1
  go_upto_region 7 with fail
  have cf := fun X (hX : Wr b Bb Bp (bs ++ Im.bytesOf 1 1) X) (hB : Box X P t cs) Bq hq => Lib.hid (layflight_w (fun k => match k with | 0 => x | 1 => y | 2 => vx | _ => vy) (fun k => o + 1 + k) P Bq t cs (bs ++ Im.bytesOf 1 1) b Bb Bp X (fun k hk => by
    match k, hk with
    | 0, _ => exact wx
    | 1, _ => exact wy
    | 2, _ => exact wvx
    | 3, _ => exact wvy) hbB hX (by rw [List.length_append, Im.bytesOf_len]; omega) hB (fun k hk => by
    match k, hk with
    | 0, _ => exact o1
    | 1, _ => exact o2
    | 2, _ => exact o3
    | 3, _ => exact o4) h1 h2 h3 hq 4)
  refine Rp.wp_region_lex (by kernel_rfl) [] (by kernel_rfl) (· = U.drew) (fun _ => True) (fun _ => True) rfl (fun W hW => ⟨trivial, trivial⟩) ?_
  repeat (first
    | (apply Rp.lex_free rfl rfl; focus (intro _; go_simp; first | done | rfl))
    | (apply Rp.lex_look rfl rfl rfl rfl; focus (intro W hW; clear hW; go_simp; first | done | rfl)))
  refine Rp.lex_make rfl (W' := U.drew.alloc (.cells #[.pointer (some ⟨P, o + 1, none⟩), .pointer (some ⟨P, o + 2, none⟩), .pointer (some ⟨P, o + 3, none⟩), .pointer (some ⟨P, o + 4, none⟩)] 168)) (v := .slice (some ⟨U.drew.heap.size, 0, none⟩) 4 4) ?_ ⟨trivial, trivial⟩ ?_
  focus (go_simp; first | done | rfl)
  refine Rp.lex_call (C' := fun Z => Wr b Bb Bp (bs ++ Im.bytesOf 1 1 ++ Im.flight (fun k => match k with | 0 => x | 1 => y | 2 => vx | _ => vy) 4) Z ∧ Wrote b Bb w Z ∧ Box Z P t cs) (v := .tuple #[]) (f := 137) (args := #[.func (.func 118) #[] #[.pointer (some ⟨Bp, 0, none⟩)], .slice (some ⟨U.drew.heap.size, 0, none⟩) 4 4]) rfl ?_ ?_ ?_ ?_
  · intro Z hZ; clear hZ; go_simp; first | done | rfl | exact ⟨rfl, rfl⟩
  · intro Z hZ
    subst hZ
    have hW := (IU.out.call (one_below' U)).alloc (.cells #[.pointer (some ⟨P, o + 1, none⟩), .pointer (some ⟨P, o + 2, none⟩), .pointer (some ⟨P, o + 3, none⟩), .pointer (some ⟨P, o + 4, none⟩)] 168)
    refine (cf _ hW (PU.out.drew.alloc _) U.drew.heap.size (Box.made _ _ _)).out.mono ?_
    rintro e Z2 ⟨rfl, hI2, hK2⟩
    exact ⟨rfl, hI2, (KU.out.drew.alloc _).trans hK2, (PU.out.drew.alloc _).wrote' hK2 hW.isvar h1 h2⟩
  · exact fun Z hZ => ⟨trivial, trivial⟩
  refine Rp.lex_end fun W3 hW3 => ?_
  obtain ⟨hI3, hK3, hP3⟩ := hW3
  have P3 := Lib.hid hP3
  have p3 := P3.out.cell
  have IV3 := Lib.hid hI3.isvar
  have K3 := Lib.hid hK3
  have hwc : IntKind.u64.wrap cool = cool := by rw [IntKind.wrap_u64]; omega
  have hws : IntKind.u64.wrap score = score := by rw [IntKind.wrap_u64]; omega
  have lf := Im.flight_len (fun k => match k with | 0 => x | 1 => y | 2 => vx | _ => vy) 4
  have c5 := Lib.hid (layint_w 1 1 rfl cool P (o + 5) t cs _ b Bb Bp W3 (by decide) (by omega) hbB hI3 (by rw [List.length_append, List.length_append, Im.bytesOf_len, lf]; omega) hP3 o5 h1 h2 h3)
  rw [hwc] at c5
  have c6 := fun X (hX : Wr b Bb Bp (bs ++ Im.bytesOf 1 1 ++ Im.flight (fun k => match k with | 0 => x | 1 => y | 2 => vx | _ => vy) 4 ++ Im.bytesOf 1 cool) X) (hB : Box X P t cs) => Lib.hid (layint_w 4 4 rfl score P (o + 6) t cs _ b Bb Bp X (by decide) (by omega) hbB hX (by rw [List.length_append, List.length_append, List.length_append, Im.bytesOf_len, Im.bytesOf_len, lf]; omega) hB o6 h1 h2 h3)
  rw [hws] at c6
  have hsh : Hid (bs ++ Im.bytesOf 1 1 ++ Im.flight (fun k => match k with | 0 => x | 1 => y | 2 => vx | _ => vy) 4 ++ Im.bytesOf 1 cool ++ Im.bytesOf 4 score = bs ++ Im.ship ⟨true, x, y, vx, vy, cool, score⟩) := Lib.hid (by simp [Im.ship])
  generalize Im.flight (fun k => match k with | 0 => x | 1 => y | 2 => vx | _ => vy) 4 = FL at *
  clear hI3 hK3 hP3 cf IU KU PU hwc hws lf u0 o1 o2 o3 o4 o5 o6
  go_wp2_with (first | (go_at_call 112; ((with_reducible refine (c5.out).mono ?_); rintro e w4 ⟨rfl, hI, hK⟩; have P4 := Lib.hid (P3.out.wrote' hK IV3.out h1 h2); have p4 := P4.out.cell; have IV4 := Lib.hid hI.isvar; have I4 := Lib.hid hI; have K4 := Lib.hid (K3.out.trans hK); clear hI hK)) | (go_at_call 112; ((with_reducible refine ((c6 _ I4.out P4.out).out).mono ?_); rintro e w5 ⟨rfl, hI, hK⟩; have P5 := Lib.hid (P4.out.wrote' hK IV4.out h1 h2); have p5 := P5.out.cell; have IV5 := Lib.hid hI.isvar; have I5 := Lib.hid hI; have K5 := Lib.hid (K4.out.trans hK); clear hI hK)))
  go_end0
  exact ⟨rfl, by rw [← hsh.out]; exact I5.out, K5.out⟩
end Go.Proofs.YtiahpncglpfjeaaGreat
namespace Go.Proofs.YtiahpncglpfjeaaGreat
open Go.RowKit Go.Shelf
set_option linter.unusedVariables false

def Im.shot (s : Gm.Shot) : List Int := Im.bytesOf 1 s.owner ++ (Im.flight (fun k => match k with | 0 => s.x | 1 => s.y | 2 => s.vx | _ => s.vy) 4 ++ Im.bytesOf 1 s.left)
def Im.shots (l : List Gm.Shot) : List Int := l.flatMap Im.shot
theorem Im.shot_len (s : Gm.Shot) : (Im.shot s).length = 18 := by unfold Im.shot; rw [List.length_append, List.length_append, Im.bytesOf_len, Im.bytesOf_len, Im.flight_len]
theorem Im.shots_len (l : List Gm.Shot) : (Im.shots l).length = 18 * l.length := by
  induction l with
  | nil => rfl
  | cons s l ih => unfold Im.shots at *; rw [List.flatMap_cons, List.length_append, ih, Im.shot_len, List.length_cons]; omega
end Go.Proofs.YtiahpncglpfjeaaGreat
namespace Im
open Go
/-- The number that bytes are, the least first. -/
def val (f : Nat → Int) : Nat → Int
  | 0 => 0
  | k + 1 => val f k + f k * 2 ^ (8 * k)
end Im
namespace Rx
open Go
section
variable {P : Program} {X : Thr} {st : List Nat} {E C D : World → Prop} {Q : Act → (World → Prop) → Prop} {o : Oper} {rest : List Oper} {n : Nat} {a : Act}
end
end Rx
namespace Go.Proofs.YtiahpncglpfjeaaGreat
open Go.RowKit Go.Shelf
set_option linter.unusedVariables false
set_option linter.unusedSimpArgs false

/-- What a reader reads from: the variable in block Bb; what is left of the bytes lies below b; the reader holds the variable's place in block Bp. -/
structure Rd (b Bb Bp : Nat) (bs : List Int) (W : World) : Prop where
  ptr : Box W Bp 115 #[.pointer (some ⟨Bb, 0, none⟩)]
  var : ∃ A c, Box W Bb 72 #[.slice A bs.length c] ∧ bs.length ≤ c ∧ Lies W b 1 A bs.length (Im.u8s bs)
section
variable {b Bb Bp : Nat} {bs : List Int} {W W' : World}
theorem Rd.call (h : Rd b Bb Bp bs W) (hb : Below W.heap.size W W') (hs : b ≤ W.heap.size) : Rd b Bb Bp bs W' := by
  obtain ⟨h1, A, c, h2, hc, h3⟩ := h
  exact ⟨h1.below hb h1.lt, A, c, h2.below hb h2.lt, hc, h3.below (hb.mono hs)⟩
theorem Rd.off (h : Rd b Bb Bp bs W) {p : Addr} {t : TypeId} {cs : Array Value} (hp : Box W p.block t cs) (h1 : t ≠ 115) (h2 : t ≠ 72) (hb : b ≤ p.block) (u : Value) : Rd b Bb Bp bs (W.setCell p u) := by
  obtain ⟨k1, A, c, k2, kc, k3⟩ := h
  exact ⟨k1.far (fun e => Box.apart k1 hp (fun e' => h1 e'.symm) e) u, A, c, k2.far (fun e => Box.apart k2 hp (fun e' => h2 e'.symm) e) u, kc, k3.stays fun i hi => heap_setCell_other W p i u (by omega)⟩
theorem Rd.offRow (h : Rd b Bb Bp bs W) {p : Nat} {t : TypeId} {cs : Array Value} (hp : Box W p t cs) (h1 : t ≠ 115) (h2 : t ≠ 72) (hb : b ≤ p) (cs' : Array Value) : Rd b Bb Bp bs (W.setRow p cs') := by
  obtain ⟨k1, A, c, k2, kc, k3⟩ := h
  exact ⟨k1.row_far (fun e => Box.apart k1 hp (fun e' => h1 e'.symm) e) cs', A, c, k2.row_far (fun e => Box.apart k2 hp (fun e' => h2 e'.symm) e) cs', kc, k3.stays fun i hi => setRow_other W p i cs' (by omega)⟩
theorem Rd.isvar (h : Rd b Bb Bp bs W) : ∃ A n c, Box W Bb 72 #[.slice A n c] := by
  obtain ⟨_, A, c, k2, _⟩ := h
  exact ⟨A, _, c, k2⟩
theorem Rd.ne (h : Rd b Bb Bp bs W) : Bp ≠ Bb := by
  obtain ⟨h1, A, c, h2, _⟩ := h
  exact Box.apart h1 h2 (by decide)
end

theorem Lies.rest {w : World} {b k n c : Nat} {ad : Addr} {xs rest : List Int} (h : Lies w b 1 (some ad) n (Im.u8s (xs ++ rest))) (m : Nat) (hx : xs.length = k) (hc : n ≤ c) (hn : n = k + m) : Lies w b 1 (if c = k then some ad else some (ad.add k)) m (Im.u8s rest) := by
  have hl := h.len
  rw [Im.u8s_len, List.length_append, hx] at hl
  have hm : rest.length = m := by omega
  refine ⟨by rw [Im.u8s_len]; omega, fun h0 => ?_, fun ad' e h0 j u hj => ?_⟩
  · rw [if_neg (by omega)]
    obtain ⟨ad2, e2, hb⟩ := h.start (by omega)
    injection e2 with e2
    subst e2
    exact ⟨_, rfl, by rw [add_block]; exact hb⟩
  · rw [if_neg (by omega)] at e
    injection e with e
    subst e
    have := h.cell ad rfl (by omega) (k + j) u (by
      rw [Im.u8s_append, List.getElem?_append_right (by rw [Im.u8s_len]; omega), Im.u8s_len, hx, Nat.add_sub_cancel_left]
      exact hj)
    rw [← this]
    congr 1
    unfold Addr.add
    by_cases hk0 : k = 0 <;> by_cases hj0 : j = 0 <;> simp [hk0, hj0, Nat.add_assoc]

end Go.Proofs.YtiahpncglpfjeaaGreat
namespace Im
open Go
/-- The byte at place k of a number. -/
def byte (v : Int) (k : Nat) : Int := v / 2 ^ (8 * k) % 256
/-- The cells cs' are cs, but for those from o on that are l. -/
def Patch (cs : Array Value) (o : Nat) (l : List Value) (cs' : Array Value) : Prop := ∀ j, cs'[j]? = if o ≤ j ∧ j < o + l.length then l[j - o]? else cs[j]?
theorem Patch.nil (cs : Array Value) (o : Nat) : Patch cs o [] cs := fun j => by rw [if_neg (by simp)]
theorem Patch.one {cs : Array Value} {o : Nat} {u : Value} (v : Value) (h : cs[o]? = some u) : Patch cs o [v] (cs.setIfInBounds o v) := fun j => by
  have ho : o < cs.size := (Array.getElem?_eq_some_iff.1 h).1
  by_cases e : o = j
  · subst e
    simp [ho]
  · rw [if_neg (by simp; omega), Array.getElem?_setIfInBounds_ne e]
theorem Patch.trans {cs cs' cs'' : Array Value} {o p : Nat} {l m : List Value} (h : Patch cs o l cs') (k : Patch cs' p m cs'') (hp : p = o + l.length) : Patch cs o (l ++ m) cs'' := fun j => by
  rw [k j, h j, List.length_append]
  subst hp
  by_cases h1 : o ≤ j ∧ j < o + l.length
  · rw [if_pos h1, if_neg (by omega), if_pos (by omega), List.getElem?_append_left (by omega)]
  · by_cases h2 : o + l.length ≤ j ∧ j < o + l.length + m.length
    · rw [if_pos h2, if_pos (by omega), List.getElem?_append_right (by omega)]
      congr 1; omega
    · rw [if_neg h2, if_neg h1, if_neg (by omega)]
theorem Patch.cell {cs cs' : Array Value} {o : Nat} {l : List Value} (h : Patch cs o l cs') {j : Nat} (hj : j < o ∨ o + l.length ≤ j) : cs'[j]? = cs[j]? := by rw [h j, if_neg (by omega)]
theorem Patch.at {cs cs' : Array Value} {o : Nat} {l : List Value} (h : Patch cs o l cs') (i : Nat) (hi : i < l.length) : cs'[o + i]? = l[i]? := by rw [h (o + i), if_pos (by omega), Nat.add_sub_cancel_left]
/-- What stands there already may be said to be patched, too. -/
theorem Patch.more {cs cs' : Array Value} {o : Nat} {l : List Value} (h : Patch cs o l cs') (m : List Value) (hm : ∀ i, i < m.length → cs[o + l.length + i]? = m[i]?) : Patch cs o (l ++ m) cs' := fun j => by
  rw [h j, List.length_append]
  by_cases h1 : o ≤ j ∧ j < o + l.length
  · rw [if_pos h1, if_pos (by omega), List.getElem?_append_left (by omega)]
  · rw [if_neg h1]
    by_cases h2 : o + l.length ≤ j ∧ j < o + l.length + m.length
    · rw [if_pos (by omega), List.getElem?_append_right (by omega), ← hm _ (by omega)]
      congr 1; omega
    · rw [if_neg (by omega)]
end Im
namespace Go.Proofs.YtiahpncglpfjeaaGreat
open Go.RowKit Go.Shelf
set_option linter.unusedVariables false
set_option linter.unusedSimpArgs false

/-- What a reader does to the world, where it lays what it reads in block P. -/
structure Rk (b Bb P : Nat) (w w' : World) : Prop where
  below : Below b w w'
  kb : Kb P w w'

section
variable {b Bb P L : Nat} {w w0 w1 : World}
theorem Kb.fresh (h : Kb P w w0) (k : Kb L w0 w1) (hL : w.heap.size ≤ L) : Kb P w w1 := fun g t cs hg hne h1 h2 => k g t cs (h g t cs hg hne h1 h2) (by have := hg.lt; omega) h1 h2
theorem Rk.trans (h : Rk b Bb P w w0) (k : Rk b Bb P w0 w1) : Rk b Bb P w w1 := ⟨h.below.trans k.below, h.kb.trans k.kb⟩
theorem Rk.alloc (hb : b ≤ w.heap.size) (o : Obj) : Rk b Bb P w (w.alloc o) := ⟨(one_below w o).mono hb, (Kb.refl w).call (one_below w o)⟩
theorem Rk.put (h : Rk b Bb P w w0) (hb : b ≤ P) (i : Nat) (u : Value) : Rk b Bb P w (w0.setCell ⟨P, i, none⟩ u) := ⟨h.below.setCell hb _, h.kb.put i u⟩
theorem Rk.refl (b Bb P : Nat) (w : World) : Rk b Bb P w w := ⟨Below.refl _ _, Kb.refl w⟩
end
end Go.Proofs.YtiahpncglpfjeaaGreat
namespace Im
open Go
def IsBytes (bs : List Int) : Prop := ∀ x ∈ bs, 0 ≤ x ∧ x ≤ 255
theorem IsBytes.nil : IsBytes [] := fun _ h => by cases h
theorem IsBytes.drop {bs : List Int} (h : IsBytes bs) (n : Nat) : IsBytes (bs.drop n) := fun x hx => h x (List.mem_of_mem_drop hx)
theorem IsBytes.take {bs : List Int} (h : IsBytes bs) (n : Nat) : IsBytes (bs.take n) := fun x hx => h x (List.mem_of_mem_take hx)
/-- A number of n bytes is read, if they are there. -/
def rdn (n : Nat) (bs : List Int) : Option (Int × List Int) := if n ≤ bs.length then some (val (fun k => bs.getD k 0) n, bs.drop n) else none
end Im
namespace Go.Proofs.YtiahpncglpfjeaaGreat
open Go.RowKit Go.Shelf
set_option linter.unusedVariables false
set_option linter.unusedSimpArgs false

end Go.Proofs.YtiahpncglpfjeaaGreat
namespace En
open Go Im
structure Ev where
  kind : Int
  slot : Int
  gen : Int
  peer : Int
/-- An entry: of the inputs those of slots 0 to 7 count. -/
structure E where
  frame : Int
  evs : List Ev
  inp : Nat → Gm.In
def Ev.cells (v : Ev) : List Value := [.int .i64 v.kind, .int .i64 v.slot, .int .i64 v.gen, .int .i64 v.peer]
def evCells (l : List Ev) : List Value := l.flatMap Ev.cells
theorem evCells_at (l : List Ev) (k j : Nat) (hk : k < l.length) (hj : j < 4) : (evCells l)[k * 4 + j]? = l[k].cells[j]? := by
  induction l generalizing k with
  | nil => simp at hk
  | cons s l ih =>
    unfold evCells at *
    rw [List.flatMap_cons]
    match k with
    | 0 => rw [List.getElem?_append_left (by simp [Ev.cells]; omega)]; simp
    | k + 1 =>
      rw [List.getElem?_append_right (by simp [Ev.cells]; omega)]
      have := ih k (by simpa using hk)
      rw [show (k + 1) * 4 + j - s.cells.length = k * 4 + j from by simp [Ev.cells]; omega, this]
      simp
/-- The 26 cells of an entry whose events are the slice s. -/
def cells (e : E) (s : Value) : Array Value := ([Value.int .i64 e.frame, s] ++ Gm.insCells e.inp).toArray
theorem cells_size (e : E) (s : Value) : (cells e s).size = 26 := rfl
theorem cells_0 (e : E) (s : Value) : (cells e s)[0]? = some (.int .i64 e.frame) := rfl
theorem cells_1 (e : E) (s : Value) : (cells e s)[1]? = some s := rfl
theorem cells_in (e : E) (s : Value) (i k : Nat) (hi : i < 8) (hk : k < 3) : (cells e s)[2 + i * 3 + k]? = (e.inp i).cells[k]? := by
  match i, hi with
  | 0, _ => match k, hk with | 0, _ | 1, _ | 2, _ => rfl
  | 1, _ => match k, hk with | 0, _ | 1, _ | 2, _ => rfl
  | 2, _ => match k, hk with | 0, _ | 1, _ | 2, _ => rfl
  | 3, _ => match k, hk with | 0, _ | 1, _ | 2, _ => rfl
  | 4, _ => match k, hk with | 0, _ | 1, _ | 2, _ => rfl
  | 5, _ => match k, hk with | 0, _ | 1, _ | 2, _ => rfl
  | 6, _ => match k, hk with | 0, _ | 1, _ | 2, _ => rfl
  | 7, _ => match k, hk with | 0, _ | 1, _ | 2, _ => rfl
theorem cells_ins (e : E) (s : Value) : ∀ j v, (Gm.insCells e.inp)[j]? = some v → (cells e s)[2 + j]? = some v := fun j v hv => by
  unfold cells
  rw [List.getElem?_toArray, List.getElem?_append_right (by simp)]
  simpa using hv
theorem cells_one (e : E) (s : Value) (h : s.oneCell' = true) : (cells e s).all (·.oneCell') = true := by
  refine Array.all_eq_true_iff_forall_mem.2 fun v hv => ?_
  have hv : v ∈ [Value.int .i64 e.frame, s] ++ Gm.insCells e.inp := by simpa [cells] using hv
  simp only [Gm.insCells, Gm.In.cells, List.mem_append, List.mem_cons, List.not_mem_nil, or_false] at hv
  rcases hv with (rfl | rfl) | hv
  · rfl
  · exact h
  · rcases hv with hv | hv | hv | hv | hv | hv | hv | hv <;> (rcases hv with rfl | rfl | rfl <;> rfl)
def upd (f : Nat → Gm.In) (i : Nat) (p : Gm.In) : Nat → Gm.In := fun j => if j = i then p else f j
theorem upd_same (f : Nat → Gm.In) (i : Nat) (p : Gm.In) : upd f i p i = p := by unfold upd; rw [if_pos rfl]
theorem upd_other (f : Nat → Gm.In) {i j : Nat} (p : Gm.In) (h : j ≠ i) : upd f i p j = f j := by unfold upd; rw [if_neg h]
/-- Two entries that are alike where it counts lie alike. -/
def Like (e o : E) : Prop := e.frame = o.frame ∧ e.evs = o.evs ∧ ∀ i, i < 8 → e.inp i = o.inp i
def evOk (v : Ev) : Prop := (v.kind = 2 ∨ v.kind = 1) ∧ (0 ≤ v.slot ∧ v.slot < 8) ∧ (1 ≤ v.gen ∧ v.gen ≤ 60000) ∧ 0 ≤ v.peer ∧ v.peer < 12
instance (v : Ev) : Decidable (evOk v) := by unfold evOk; infer_instance
def place (v : Ev) : Int := if v.kind = 2 then v.slot else 8 + v.slot
def Row : Int → List Ev → Prop
  | _, [] => True
  | last, v :: l => (evOk v ∧ last < place v) ∧ Row (place v) l
instance rowDec : ∀ (last : Int) (l : List Ev), Decidable (Row last l)
  | _, [] => .isTrue trivial
  | last, v :: l => by unfold Row; exact @instDecidableAnd _ _ _ (rowDec (place v) l)
theorem place_lt {v : Ev} (h : evOk v) : 0 ≤ place v ∧ place v < 16 := by
  obtain ⟨h1, h2, _⟩ := h
  unfold place
  split <;> omega
theorem row_len : ∀ (l : List Ev) (last : Int), -1 ≤ last → last < 16 → Row last l → (l.length : Int) ≤ 15 - last
  | [], last, _, h, _ => by simp; omega
  | v :: l, last, h0, h1, h => by
    obtain ⟨⟨h2, h3⟩, h4⟩ := h
    have hp := place_lt h2
    have := row_len l (place v) (by omega) (by omega) h4
    simp only [List.length_cons]
    omega
theorem row_mem : ∀ (l : List Ev) (last : Int), Row last l → ∀ v ∈ l, evOk v
  | v :: l, last, h, u, hu => by
    rcases List.mem_cons.1 hu with rfl | hu
    · exact h.1.1
    · exact row_mem l _ h.2 u hu
def inOk (p : Gm.In) : Prop := -127 ≤ p.x ∧ -127 ≤ p.y
instance (p : Gm.In) : Decidable (inOk p) := by unfold inOk; infer_instance
structure Ok (e : E) : Prop where
  frame : 0 ≤ e.frame ∧ e.frame < 1048576
  row : Row (-1) e.evs
  ins : ∀ i, i < 8 → inOk (e.inp i)
instance (e : E) : Decidable (Ok e) := decidable_of_iff ((0 ≤ e.frame ∧ e.frame < 1048576) ∧ Row (-1) e.evs ∧ ∀ i, i < 8 → inOk (e.inp i)) ⟨fun h => ⟨h.1, h.2.1, h.2.2⟩, fun h => ⟨h.frame, h.row, h.ins⟩⟩
theorem Ok.count {e : E} (h : Ok e) : e.evs.length ≤ 16 := by
  have := row_len e.evs (-1) (by omega) (by omega) h.row
  omega
def i64 (x : Int) : Prop := -9223372036854775808 ≤ x ∧ x ≤ 9223372036854775807
def tyEv (v : Ev) : Prop := i64 v.kind ∧ i64 v.slot ∧ i64 v.gen ∧ i64 v.peer
theorem evOk.ty {v : Ev} (h : evOk v) : tyEv v := by
  obtain ⟨h1, h2, h3, h4⟩ := h
  unfold tyEv i64
  omega

def zero (p : Gm.In) : Bool := decide (p.x = 0 ∧ p.y = 0 ∧ p.b = 0)
def mask (f : Nat → Gm.In) : Nat → Nat
  | 0 => 0
  | k + 1 => mask f k + (if zero (f k) then 0 else 2 ^ k)
def evBytes (v : Ev) : List Int := bytesOf 1 v.kind ++ (bytesOf 1 v.slot ++ (bytesOf 2 v.gen ++ bytesOf 1 v.peer))
def evsBytes (l : List Ev) : List Int := l.flatMap evBytes
def inBytes (p : Gm.In) : List Int := bytesOf 1 p.x ++ (bytesOf 1 p.y ++ bytesOf 1 p.b)
def insBytes (f : Nat → Gm.In) : Nat → List Int
  | 0 => []
  | k + 1 => insBytes f k ++ (if zero (f k) then [] else inBytes (f k))
theorem evBytes_len (v : Ev) : (evBytes v).length = 5 := by unfold evBytes; simp only [List.length_append, bytesOf_len]
theorem inBytes_len (p : Gm.In) : (inBytes p).length = 3 := by unfold inBytes; simp only [List.length_append, bytesOf_len]
theorem evsBytes_len (l : List Ev) : (evsBytes l).length = 5 * l.length := by
  induction l with
  | nil => rfl
  | cons s l ih => unfold evsBytes at *; rw [List.flatMap_cons, List.length_append, ih, evBytes_len, List.length_cons]; omega
theorem insBytes_le (f : Nat → Gm.In) : ∀ k, (insBytes f k).length ≤ 3 * k
  | 0 => Nat.le_refl _
  | k + 1 => by
    unfold insBytes
    have := insBytes_le f k
    rw [List.length_append]
    split
    · simp; omega
    · rw [inBytes_len]; omega
/-- An entry's bytes. -/
def put (e : E) : List Int := bytesOf 4 e.frame ++ ((bytesOf 1 e.evs.length ++ evsBytes e.evs) ++ (bytesOf 1 (mask e.inp 8) ++ insBytes e.inp 8))
theorem put_le {e : E} (h : e.evs.length ≤ 16) : (put e).length ≤ 110 := by
  have h1 := evsBytes_len e.evs
  have h2 := insBytes_le e.inp 8
  unfold put
  simp only [List.length_append, bytesOf_len]
  omega
end En
namespace En
open Go Im
def in0 : Nat → Gm.In := fun _ => ⟨0, 0, 0⟩
theorem zero_is {p : Gm.In} (h : zero p = true) : p = ⟨0, 0, 0⟩ := by
  unfold zero at h
  have := of_decide_eq_true h
  obtain ⟨x, y, b⟩ := p
  dsimp only at this
  obtain ⟨rfl, rfl, rfl⟩ := this
  rfl
end En
namespace Bd
open Go
theorem i8 {a : Int} (h : (Lit.int .i8 a).wf = true) : -128 ≤ a ∧ a ≤ 127 := by
  simpa [Lit.wf, IntKind.min, IntKind.max, IntKind.signed, IntKind.bits] using h
theorem i32 {a : Int} (h : (Lit.int .i32 a).wf = true) : -2147483648 ≤ a ∧ a ≤ 2147483647 := by
  simpa [Lit.wf, IntKind.min, IntKind.max, IntKind.signed, IntKind.bits] using h
theorem i64 {a : Int} (h : (Lit.int .i64 a).wf = true) : -9223372036854775808 ≤ a ∧ a ≤ 9223372036854775807 := by
  simpa [Lit.wf, IntKind.min, IntKind.max, IntKind.signed, IntKind.bits] using h
theorem u8 {a : Int} (h : (Lit.int .u8 a).wf = true) : 0 ≤ a ∧ a ≤ 255 := by
  simpa [Lit.wf, IntKind.min, IntKind.max, IntKind.signed, IntKind.bits] using h
theorem u64 {a : Int} (h : (Lit.int .u64 a).wf = true) : 0 ≤ a ∧ a ≤ 18446744073709551615 := by
  simpa [Lit.wf, IntKind.min, IntKind.max, IntKind.signed, IntKind.bits] using h
end Bd
namespace Go.Proofs.YtiahpncglpfjeaaGreat
open Go.ChangeShapes Go.WideShapes Go.ChangeAt Go.RowKit Go.Joins Go.ChangeMaps Go.Deep
set_option linter.unusedVariables false

theorem cells?_cell' {w : World} {base : Nat} {a : Addr} {n : Nat} {cs : List Value} (h : w.cells? base a n = some cs) : cs.length = n ∧ ∀ j, j < n → w.cell? (a.add j) = cs[j]? := by
  unfold World.cells? at h
  split at h
  · have hl := mapM_some_length h
    refine ⟨by simpa using hl, fun j hj => ?_⟩
    have := mapM_some_get h j j (by simp [hj])
    rw [this]
  · cases h
theorem cells_one_of' {v x : Value} (h : ∀ cs, v ≠ .agg cs) (hv : v.cells.toList = [x]) : v = x := by
  cases v <;> first | exact absurd rfl (h _) | simpa [Value.cells] using hv
section
variable {α : Type} {cells : α → List Value} {c : Nat}
theorem flat_len (hc : ∀ a, (cells a).length = c) (l : List α) : (l.flatMap cells).length = l.length * c := by
  induction l with
  | nil => simp
  | cons s l ih => rw [List.flatMap_cons, List.length_append, ih, List.length_cons, hc, Nat.succ_mul]; omega
theorem flat_at (hc : ∀ a, (cells a).length = c) (l : List α) (k j : Nat) (hk : k < l.length) (hj : j < c) : (l.flatMap cells)[k * c + j]? = (cells l[k])[j]? := by
  induction l generalizing k with
  | nil => simp at hk
  | cons s l ih =>
    rw [List.flatMap_cons]
    match k with
    | 0 => rw [List.getElem?_append_left (by rw [hc]; omega)]; simp
    | k + 1 =>
      rw [List.getElem?_append_right (by rw [hc, Nat.succ_mul]; omega)]
      have := ih k (by simpa using hk)
      rw [show (k + 1) * c + j - (cells s).length = k * c + j from by rw [hc, Nat.succ_mul]; omega, this]
      simp
end
section
variable {H : Type} {enc : TypeId × Value → H} {w : World} {base : Nat} {spare : Nat → Bool} {held : Bool}
set_option maxRecDepth 100000 in
theorem open_slice_c {α : Type} {t e : TypeId} (cells : α → List Value) (c : Nat) (ty : α → Prop) (z : α) (hu : Tryz.prog.underlying t = some (.slice e)) (hce : Tryz.prog.cellsOf e = c) (hc0 : 0 < c) (hlen : ∀ a, (cells a).length = c)
    (hel : ∀ {base : Nat} {spare : Nat → Bool} {held : Bool} {fuel : Nat} {l : List Value} {y : DataW H × List MemPlace}, l.length = c → DataW.trod enc Tryz.prog w base spare held fuel e l = some y → ∃ q : α, l = cells q ∧ ty q)
    {v : Value} {d : DataW H} {p : List MemPlace} (hag : ∀ cs, v ≠ .agg cs) (h : DataW.Trod enc Tryz.prog w base spare held t v d p) : ∃ (A : Option Addr) (cc : Nat) (l : List α), v = .slice A l.length cc ∧ (∀ x ∈ l, ty x) ∧ l.length ≤ maxLen ∧ Lies w w.heap.size c A l.length (l.flatMap cells) ∧ l.length ≤ cc := by
  obtain ⟨fuel, hf⟩ := h
  rcases DataW.trod_slice hu hf with ⟨hv, _⟩ | ⟨a, len, cap, elems, rest, n, rfl, hv, _, _, hlc, hcm, hlen', hel', _, _⟩
  · have ev : v = .slice none 0 0 := cells_one_of' hag hv
    exact ⟨none, 0, [], ev, fun x hx => (by cases hx), Nat.zero_le _, Lies.empty, Nat.le_refl _⟩
  · have ev : v = .slice (some a) len cap := cells_one_of' hag hv
    simp only [hce] at hel'
    have key : ∀ i, i < len → ∃ q : α, w.cells? base (a.add (i * c)) c = some (cells q) ∧ ty q := by
      intro i hi
      obtain ⟨y, hy⟩ : ∃ y, elems[i]? = some y := ⟨elems[i]'(by omega), List.getElem?_eq_getElem (by omega)⟩
      have h := hel' i hi
      rw [hy, Option.bind_eq_some_iff] at h
      obtain ⟨cs, hcs, ht⟩ := h
      have hl := (cells?_cell' hcs).1
      obtain ⟨q, h1, h2⟩ := hel hl ht
      exact ⟨q, by rw [hcs, h1], h2⟩
    have hch : ∃ ps : Nat → α, ∀ i, i < len → (w.cells? base (a.add (i * c)) c = some (cells (ps i)) ∧ ty (ps i)) :=
      ⟨fun i => if h : i < len then (key i h).choose else z, fun i hi => by dsimp only; rw [dif_pos hi]; exact (key i hi).choose_spec⟩
    obtain ⟨ps, hps⟩ := hch
    have ll : ((List.range len).map ps).length = len := by simp
    have lf : (((List.range len).map ps).flatMap cells).length = len * c := by rw [flat_len hlen, ll]
    refine ⟨some a, cap, (List.range len).map ps, by rw [ll]; exact ev, fun x hx => ?_, by rw [ll]; omega, ⟨?_, fun h0 => ?_, fun ad e h0 j u hu => ?_⟩, by rw [ll]; exact hlc⟩
    · obtain ⟨i, hi, rfl⟩ := List.mem_map.1 hx
      exact (hps i (by simpa using hi)).2
    · rw [lf, ll]
    · rw [ll] at h0
      exact ⟨a, rfl, by have := World.cells?_block (hps 0 (by omega)).1 hc0; simpa [Addr.add] using this⟩
    · injection e with e
      subst e
      have hjl : j < len * c := by have := (List.getElem?_eq_some_iff.1 hu).1; rwa [lf] at this
      have hjc : j / c < len := (Nat.div_lt_iff_lt_mul hc0).2 hjl
      have hjm : j % c < c := Nat.mod_lt _ hc0
      have hjj : j / c * c + j % c = j := by rw [Nat.mul_comm]; exact Nat.div_add_mod j c
      have hq := (cells?_cell' (hps (j / c) hjc).1).2 (j % c) hjm
      rw [add_twice, hjj] at hq
      rw [hq, ← hu]
      have := flat_at hlen ((List.range len).map ps) (j / c) (j % c) (by rw [ll]; exact hjc) hjm
      rw [hjj] at this
      rw [this]
      simp
/-- A list of whole numbers. -/
theorem open_slice {α : Type} {t e : TypeId} (cells : α → List Value) (c : Nat) (ty : α → Prop) (z : α) (hu : Tryz.prog.underlying t = some (.slice e)) (hce : Tryz.prog.cellsOf e = c) (hc0 : 0 < c) (hlen : ∀ a, (cells a).length = c)
    (hel : ∀ {base : Nat} {spare : Nat → Bool} {held : Bool} {fuel : Nat} {l : List Value} {y : DataW H × List MemPlace}, l.length = c → DataW.trod enc Tryz.prog w base spare held fuel e l = some y → ∃ q : α, l = cells q ∧ ty q)
    {v : Value} {d : DataW H} {p : List MemPlace} (hag : ∀ cs, v ≠ .agg cs) (h : DataW.Trod enc Tryz.prog w base spare held t v d p) : ∃ (A : Option Addr) (cc : Nat) (l : List α), v = .slice A l.length cc ∧ (∀ x ∈ l, ty x) ∧ l.length ≤ maxLen ∧ Lies w w.heap.size c A l.length (l.flatMap cells) := by
  obtain ⟨A, cc, l, h1, h2, h3, h4, _⟩ := open_slice_c cells c ty z hu hce hc0 hlen hel hag h
  exact ⟨A, cc, l, h1, h2, h3, h4⟩

end
end Go.Proofs.YtiahpncglpfjeaaGreat
namespace Go.Proofs.YtiahpncglpfjeaaGreat
open Go.RowKit Go.Shelf
set_option linter.unusedVariables false
set_option linter.unusedSimpArgs false

theorem en_info : (Tryz.prog.info? 42).map (·.size) = some 26 := by kernel_rfl
theorem ins_info : (Tryz.prog.info? 40).map (·.size) = some 24 := by kernel_rfl

theorem stickmay_any (x y b : Int) (w : World) :
    Calls Tryz.prog 95 #[.agg #[.int .i8 x, .int .i8 y, .int .u8 b]] w fun e w' => e = .returned (.bool (decide (-127 ≤ x ∧ -127 ≤ y))) ∧ Below w.heap.size w w' := by
  by_cases hx : -127 ≤ x
  · go_enter Tryz.func95, Tryz.ntmps95
    go_wp2
    go_ret
    exact ⟨ret_bool (by (try rw [Bool.eq_iff_iff]) <;> simp <;> omega), one_below _ _⟩
  · go_enter Tryz.func95, Tryz.ntmps95
    go_wp2
    go_ret
    exact ⟨ret_bool (by (try rw [Bool.eq_iff_iff]) <;> simp <;> omega), one_below _ _⟩

set_option maxHeartbeats 1000000 in
theorem mayevent_any (k s g p : Int) (w : World) :
    Calls Tryz.prog 124 #[.agg #[.int .i64 k, .int .i64 s, .int .i64 g, .int .i64 p]] w fun e w' => e = .returned (.bool (decide (En.evOk ⟨k, s, g, p⟩))) ∧ Below w.heap.size w w' := by
  obtain ⟨r, hr⟩ : ∃ r, r = decide (En.evOk ⟨k, s, g, p⟩) := ⟨_, rfl⟩
  rw [← hr]
  unfold En.evOk at hr
  dsimp only at hr
  by_cases hk : k = 2 ∨ k = 1
  · have hkb : (if (k == 2) = true then true else k == 1) = true := by rcases hk with rfl | rfl <;> rfl
    by_cases hs : 0 ≤ s ∧ s < 8
    · by_cases hg : 1 ≤ g ∧ g ≤ 60000
      · have hr' : r = decide (0 ≤ p ∧ p < 12) := by
          rw [hr]
          by_cases hp : 0 ≤ p ∧ p < 12
          · rw [decide_eq_true hp]; exact decide_eq_true ⟨hk, hs, hg, hp⟩
          · rw [decide_eq_false hp]; exact decide_eq_false fun h => hp h.2.2.2
        have HR := Lib.hid hr'
        clear hr hr'
        obtain ⟨hs1, hs2⟩ := hs
        obtain ⟨hg1, hg2⟩ := hg
        rcases hk with rfl | rfl
        all_goals
          by_cases hp1 : 0 ≤ p
          all_goals
            go_enter Tryz.func124, Tryz.ntmps124
            go_wp2
            go_ret
            exact ⟨ret_bool (by rw [HR.out]; (try rw [Bool.eq_iff_iff]) <;> simp <;> omega), one_below _ _⟩
      · have hr' : r = false := by rw [hr]; exact decide_eq_false (by omega)
        subst hr'
        obtain ⟨hs1, hs2⟩ := hs
        clear hr
        rcases hk with rfl | rfl
        all_goals
          by_cases hg1 : 1 ≤ g
          · have hg2 : ¬ g ≤ 60000 := by omega
            go_enter Tryz.func124, Tryz.ntmps124
            go_wp2
            go_ret
            exact ⟨rfl, one_below _ _⟩
          · go_enter Tryz.func124, Tryz.ntmps124
            go_wp2
            go_ret
            exact ⟨rfl, one_below _ _⟩
    · have hr' : r = false := by rw [hr]; exact decide_eq_false (by omega)
      subst hr'
      clear hr
      rcases hk with rfl | rfl
      all_goals
        by_cases hs1 : 0 ≤ s
        · have hs2 : ¬ s < 8 := by omega
          go_enter Tryz.func124, Tryz.ntmps124
          go_wp2
          go_ret
          exact ⟨rfl, one_below _ _⟩
        · go_enter Tryz.func124, Tryz.ntmps124
          go_wp2
          go_ret
          exact ⟨rfl, one_below _ _⟩
  · have hr' : r = false := by rw [hr]; exact decide_eq_false (by omega)
    subst hr'
    have h2 : (k == 2) = false := by simp; omega
    have h1 : (k == 1) = false := by simp; omega
    clear hr hk
    go_enter Tryz.func124, Tryz.ntmps124
    go_wp2
    go_ret
    exact ⟨rfl, one_below _ _⟩

theorem enplace_any (k s g p : Int) (w : World) (h : En.evOk ⟨k, s, g, p⟩) :
    Calls Tryz.prog 125 #[.agg #[.int .i64 k, .int .i64 s, .int .i64 g, .int .i64 p]] w fun e w' => e = .returned (.int .i64 (En.place ⟨k, s, g, p⟩)) ∧ Below w.heap.size w w' := by
  obtain ⟨h1, h2, _⟩ := h
  dsimp only at h1 h2
  have hw : IntKind.i64.wrap (8 + s) = 8 + s := by rw [IntKind.wrap_i64]; omega
  rcases h1 with rfl | rfl
  · go_enter Tryz.func125, Tryz.ntmps125
    go_wp2
    go_ret
    exact ⟨rfl, one_below _ _⟩
  · go_enter Tryz.func125, Tryz.ntmps125
    go_wp2
    go_ret
    exact ⟨rfl, one_below _ _⟩

theorem evs_at {w : World} {B n : Nat} {A : Option Addr} {l : List En.Ev} (h : Lies w B 4 A n (En.evCells l)) (hn : n = l.length) (k : Nat) (hk : k < l.length) :
    ∃ ad, A = some ad ∧ ad.block < B ∧ w.cell? (ad.add (k * 4)) = some (.int .i64 l[k].kind) ∧ w.cell? ⟨(ad.add (k * 4)).block, (ad.add (k * 4)).off + 1, none⟩ = some (.int .i64 l[k].slot) ∧
      w.cell? ⟨(ad.add (k * 4)).block, (ad.add (k * 4)).off + 2, none⟩ = some (.int .i64 l[k].gen) ∧ w.cell? ⟨(ad.add (k * 4)).block, (ad.add (k * 4)).off + 3, none⟩ = some (.int .i64 l[k].peer) := by
  obtain ⟨ad, rfl, hb⟩ := h.start (by omega)
  have hc := h.cell ad rfl (by omega)
  have hj : ∀ j v, j < 4 → l[k].cells[j]? = some v → w.cell? ((ad.add (k * 4)).add j) = some v := fun j v hj hv => by
    rw [add_twice]
    exact hc _ v (by rw [En.evCells_at l k j hk hj, hv])
  exact ⟨ad, rfl, hb, hj 0 _ (by decide) rfl, hj 1 _ (by decide) rfl, hj 2 _ (by decide) rfl, hj 3 _ (by decide) rfl⟩

set_option maxHeartbeats 2000000 in
theorem mayrow_any (l : List En.Ev) (A : Option Addr) (n c : Nat) (w : World) (hn : n = l.length) (hn63 : n ≤ maxLen) (hL : Lies w w.heap.size 4 A n (En.evCells l)) :
    Calls Tryz.prog 94 #[.slice A n c] w fun e w' => e = .returned (.bool (decide (En.Row (-1) l))) ∧ Below w.heap.size w w' := by
  obtain ⟨r, hr⟩ : ∃ r, r = decide (En.Row (-1) l) := ⟨_, rfl⟩
  rw [← hr]
  have HR := Lib.hid hr
  have HN := Lib.hid hn
  have n63 : (n : Int) ≤ 9223372036854775807 := by unfold maxLen at hn63; omega
  clear hr hn hn63
  go_enter Tryz.func94, Tryz.ntmps94
  go_wp2
  go_loopw [3, 8] (fun la i wr => ∃ (k : Nat) (z : Int), k ≤ n ∧ i = .int .i64 k ∧ la = .int .i64 z ∧ (-1 ≤ z ∧ z < 16) ∧ (En.Row (-1) l ↔ En.Row z (l.drop k)) ∧ Below w.heap.size w wr) (fun _ i _ => n - (intOf i).toNat)
  case atStart => exact ⟨0, -1, by omega, rfl, rfl, by omega, Iff.rfl, Below.refl _ _⟩
  case round =>
    obtain ⟨k, z, hk, rfl, rfl, hz, hrow, hb⟩ := hrel
    by_cases hlt : k < n
    · have hk8 : (k : Int) < n := by omega
      have hkl : k < l.length := by have := HN.out; omega
      obtain ⟨ad, rfl, hbl, e0, e1, e2, e3⟩ := evs_at (hL.below hb) HN.out k hkl
      rw [List.drop_eq_getElem_cons hkl] at hrow
      generalize hv : l[k] = v at e0 e1 e2 e3 hrow
      obtain ⟨vk, vs, vg, vp⟩ := v
      dsimp only at e0 e1 e2 e3
      have hrow' : En.Row (-1) l ↔ (En.evOk ⟨vk, vs, vg, vp⟩ ∧ z < En.place ⟨vk, vs, vg, vp⟩) ∧ En.Row (En.place ⟨vk, vs, vg, vp⟩) (l.drop (k + 1)) := hrow
      have HW := Lib.hid hrow'
      have HB := Lib.hid hb
      have sz := hb.size
      have ltA : ad.block < wr.heap.size := by omega
      by_cases hev : En.evOk ⟨vk, vs, vg, vp⟩
      · have cm := fun X => Lib.hid (mayevent_any vk vs vg vp X)
        rw [decide_eq_true hev] at cm
        have cp := fun X => Lib.hid (enplace_any vk vs vg vp X hev)
        have hpl := En.place_lt hev
        have hevH := Lib.hid hev
        generalize hp : En.place ⟨vk, vs, vg, vp⟩ = pl at cp hpl HW
        clear hrow hrow' hb hv hL hev hp
        by_cases hlp : z < pl
        · have hnp : ¬ pl ≤ z := by omega
          go_wp2_with (first | (go_at_call 124; ((with_reducible refine ((cm _).out).mono ?_); rintro e w1 ⟨rfl, hb1⟩; have K1 := Lib.hid (((HB.out.alloc sz _).trans (hb1.mono (by simp <;> omega)))); have P1 := Lib.hid ((Box.made wr 61 #[.int .i64 vk, .int .i64 vs, .int .i64 vg, .int .i64 vp]).below hb1 (by simp)); have p1 := P1.out.cell; clear hb1)) | (go_at_call 125; ((with_reducible refine ((cp _).out).mono ?_); rintro e w2 ⟨rfl, hb2⟩; first | (have K3 := Lib.hid (K2.out.trans (hb2.mono K2.out.size))) | (have K2 := Lib.hid (K1.out.trans (hb2.mono K1.out.size)); have P2 := Lib.hid (P1.out.below hb2 P1.out.lt); have p2 := P2.out.cell); clear hb2)))
          go_roundw
          case rel => exact ⟨k + 1, pl, by omega, by go_num, rfl, by omega, HW.out.trans ⟨fun h => h.2, fun h => ⟨⟨hevH.out, hlp⟩, h⟩⟩, K3.out⟩
          case measure => simp [intOf]; omega
        · have hnp : pl ≤ z := by omega
          go_wp2_with (first | (go_at_call 124; ((with_reducible refine ((cm _).out).mono ?_); rintro e w1 ⟨rfl, hb1⟩; have K1 := Lib.hid (((HB.out.alloc sz _).trans (hb1.mono (by simp <;> omega)))); have P1 := Lib.hid ((Box.made wr 61 #[.int .i64 vk, .int .i64 vs, .int .i64 vg, .int .i64 vp]).below hb1 (by simp)); have p1 := P1.out.cell; clear hb1)) | (go_at_call 125; ((with_reducible refine ((cp _).out).mono ?_); rintro e w2 ⟨rfl, hb2⟩; have K2 := Lib.hid (K1.out.trans (hb2.mono K1.out.size)); clear hb2)))
          go_ret
          exact ⟨ret_bool (by rw [HR.out]; exact (decide_eq_false fun h => absurd (HW.out.1 h).1.2 (by omega)).symm), K2.out⟩
      · have cm := fun X => Lib.hid (mayevent_any vk vs vg vp X)
        rw [decide_eq_false hev] at cm
        have hevH := Lib.hid hev
        clear hrow hrow' hb hv hL hev
        go_wp2_with (go_at_call 124; ((with_reducible refine ((cm _).out).mono ?_); rintro e w1 ⟨rfl, hb1⟩; have K1 := Lib.hid (((HB.out.alloc sz _).trans (hb1.mono (by simp <;> omega)))); clear hb1))
        go_ret
        exact ⟨ret_bool (by rw [HR.out]; exact (decide_eq_false fun h => hevH.out (HW.out.1 h).1.1).symm), K1.out⟩
    · have hk8 : ¬ (k : Int) < n := by omega
      obtain rfl : k = n := by omega
      have hd : l.drop k = [] := List.drop_eq_nil_of_le (by have := HN.out; omega)
      rw [hd] at hrow
      have HW := Lib.hid hrow
      have HB := Lib.hid hb
      clear hrow hb hL
      go_wp2
      go_ret
      exact ⟨ret_bool (by rw [HR.out]; exact (decide_eq_true (HW.out.2 trivial)).symm), HB.out⟩
end Go.Proofs.YtiahpncglpfjeaaGreat
namespace Go.Proofs.YtiahpncglpfjeaaGreat
open Go.RowKit Go.Shelf
set_option linter.unusedVariables false
set_option linter.unusedSimpArgs false

section
variable {ops : Array Oper} {rest : List Oper} {o : Oper} {a : Act} {w : World} {Q : Exit → Act → World → Prop} {x y : Operand} {dst : Option Tmp} {p : Value}
/-- What the load of an entry, or of a part of it, wants. -/
def LoadEn (ops : Array Oper) (Q : Exit → Act → World → Prop) (rest : List Oper) (dst : Option Tmp) (p : Value) (off : Nat) (pick : En.E → Value → Array Value) (a : Act) (w : World) : Prop :=
  ∃ (B : Nat) (e : En.E) (s : Value), p = .pointer (some ⟨B, off, none⟩) ∧ Box w B 42 (En.cells e s) ∧ wpList Tryz.prog ops Q rest (a.put dst (.agg (pick e s))) w
theorem LoadEn.mk {off : Nat} {pick : En.E → Value → Array Value} {B : Nat} {e : En.E} {s : Value} (hp : p = .pointer (some ⟨B, off, none⟩)) (hB : Box w B 42 (En.cells e s)) (h : wpList Tryz.prog ops Q rest (a.put dst (.agg (pick e s))) w) : LoadEn ops Q rest dst p off pick a w := ⟨B, e, s, hp, hB, h⟩
theorem en_load (hgd : o.guard = none) (ho : o.op = .load 42 x) (h : LoadEn ops Q rest o.dst (a.eval x) 0 (fun e s => En.cells e s) a w) : wpList Tryz.prog ops Q (o :: rest) a w := by
  obtain ⟨B, e, s, hx, hB, h⟩ := h
  exact wpList_load_blk hgd ho hx hB Tryz.underlying42 rfl en_info h
theorem en_load_g (hw : Region.wanted o (yielded ops a.tmps) = true) (ho : o.op = .load 42 x) (h : LoadEn ops Q rest o.dst (a.eval x) 0 (fun e s => En.cells e s) a w) : wpList Tryz.prog ops Q (o :: rest) a w := by
  obtain ⟨B, e, s, hx, hB, h⟩ := h
  refine wpList_load_part_g hw ho hx hB (En.cells e s).toList (fun j v hv => ?_) Tryz.underlying42 rfl (by rw [Array.length_toList, En.cells_size]; exact en_info) (by rw [Array.toArray_toList]; exact h)
  rw [Nat.zero_add]
  simpa using hv
theorem en_load_ins (hgd : o.guard = none) (ho : o.op = .load 40 x) (h : LoadEn ops Q rest o.dst (a.eval x) 2 (fun e _ => (Gm.insCells e.inp).toArray) a w) : wpList Tryz.prog ops Q (o :: rest) a w := by
  obtain ⟨B, e, s, hx, hB, h⟩ := h
  exact wpList_load_part hgd ho hx hB (Gm.insCells e.inp) (En.cells_ins e s) Tryz.underlying40 rfl ins_info h
end

theorem in_info : (Tryz.prog.info? 39).map (·.size) = some 3 := by kernel_rfl
theorem insCells_list (f : Nat → Gm.In) (i : Nat) (hi : i < 8) : ((Gm.insCells f).drop (i * 3)).take 3 = (f i).cells := by
  match i, hi with
  | 0, _ | 1, _ | 2, _ | 3, _ | 4, _ | 5, _ | 6, _ | 7, _ => rfl
theorem in_part (f : Nat → Gm.In) (i : Nat) (hi : i < 8) (w : World) : (part 39 (Gm.insCells f).toArray (i * 3)).run Tryz.prog w = .ok (.agg (f i).cells.toArray) w := by
  have h := insCells_list f i hi
  cases hq : Tryz.prog.info? 39 with
  | none => have := in_info; simp [hq] at this
  | some j =>
    have hs : j.size = 3 := by have := in_info; simpa [hq] using this
    simp [part, isAgg, sizeOf, typeInfo, hq, hs, run_underlying (Tryz.underlying39) w, h]
theorem in_index (f : Nat → Gm.In) (k : Nat) (hk : k < 8) (W : World) : (Instr.index 40 (.agg (Gm.insCells f).toArray) (.int .i64 (k : Int))).run Tryz.prog W = .ok (.agg #[.int .i8 (f k).x, .int .i8 (f k).y, .int .u8 (f k).b]) W := by
  have h := in_part f k hk W
  rw [show (f k).cells.toArray = #[.int .i8 (f k).x, .int .i8 (f k).y, .int .u8 (f k).b] from rfl] at h
  have hk8 : (k : Int) < 8 := by omega
  have hc : Tryz.prog.cellsOf 39 = 3 := by kernel_rfl
  cases hq : Tryz.prog.info? 39 with
  | none => have := in_info; simp [hq] at this
  | some i =>
    have hi : i.size = 3 := by have := in_info; simpa [hq] using this
    simp [Instr.index, run_underlying (Tryz.underlying40) W, h, hk8, sizeOf, typeInfo, hq, hi, go_sem]
    rw [if_pos hk, insCells_list f k hk]
    rfl
set_option maxRecDepth 100000 in
set_option maxHeartbeats 2000000 in
theorem enmay_any (e : En.E) (A : Option Addr) (n c : Nat) (w : World) (hn : n = e.evs.length) (hn63 : n ≤ maxLen) (hL : Lies w w.heap.size 4 A n (En.evCells e.evs)) :
    Calls Tryz.prog 58 #[.agg (En.cells e (.slice A n c))] w fun r w' => r = .returned (.bool (decide (En.Ok e))) ∧ Below w.heap.size w w' := by
  obtain ⟨v, hv⟩ : ∃ v, v = decide (En.Ok e) := ⟨_, rfl⟩
  rw [← hv]
  have HV := Lib.hid hv
  clear hv
  have P0 := Lib.hid (Box.made w 42 (En.cells e (.slice A n c)))
  have K0 := Lib.hid (one_below w (.cells (En.cells e (.slice A n c)) 42))
  have hr0 := Lib.hid ((hL.below K0.out).wider K0.out.size)
  have c0 := P0.out.cell 0
  have c1 := P0.out.cell 1
  rw [En.cells_0] at c0
  rw [En.cells_1] at c1
  have cm := fun X hX => Lib.hid (mayrow_any e.evs A n c X hn hn63 hX)
  clear hL hn hn63
  by_cases hf1 : e.frame < 0
  · have hno := Lib.hid (show ¬ En.Ok e from fun h => by have := h.frame; omega)
    go_enter Tryz.func58, Tryz.ntmps58
    go_wp2
    go_ret
    exact ⟨ret_bool (by rw [HV.out]; exact (decide_eq_false hno.out).symm), K0.out⟩
  by_cases hf2 : 1048576 ≤ e.frame
  · have hno := Lib.hid (show ¬ En.Ok e from fun h => by have := h.frame; omega)
    go_enter Tryz.func58, Tryz.ntmps58
    go_wp2
    go_ret
    exact ⟨ret_bool (by rw [HV.out]; exact (decide_eq_false hno.out).symm), K0.out⟩
  by_cases hrow : En.Row (-1) e.evs
  · rw [decide_eq_true hrow] at cm
    have HF := Lib.hid (show 0 ≤ e.frame ∧ e.frame < 1048576 by omega)
    have HW := Lib.hid hrow
    clear hrow
    go_enter Tryz.func58, Tryz.ntmps58
    go_wp2_with (first | ((with_reducible refine en_load_ins rfl rfl ?_); apply LoadEn.mk rfl; (focus (with_reducible exact P1.out)); dsimp only) | (go_at_call 94; ((with_reducible refine ((cm _ hr0.out).out).mono ?_); rintro r w1 ⟨rfl, hb⟩; have P1 := Lib.hid (P0.out.below hb P0.out.lt); have K1 := Lib.hid (K0.out.trans (hb.mono K0.out.size)); clear hb)))
    go_loopw [21] (fun i wr => ∃ k : Nat, k ≤ 8 ∧ i = .int .i64 k ∧ Below w.heap.size w wr ∧ ∀ j, j < k → En.inOk (e.inp j)) (fun i _ => 8 - (intOf i).toNat)
    case atStart => exact ⟨0, by omega, rfl, K1.out, fun j hj => absurd hj (Nat.not_lt_zero j)⟩
    case round =>
      obtain ⟨k, hk, rfl, hb, hall⟩ := hrel
      clear P0 K0 P1 K1 hr0 c0 c1 cm
      by_cases hlt : k < 8
      · have hk8 : (k : Int) < 8 := by omega
        have hpart := in_index e.inp k hlt
        have hok : En.inOk (e.inp k) ↔ (-127 ≤ (e.inp k).x ∧ -127 ≤ (e.inp k).y) := Iff.rfl
        have HK := Lib.hid (show ∀ j, j < k + 1 → j = k ∨ j < k from fun j hj => by omega)
        obtain ⟨p, hp⟩ : ∃ p, p = e.inp k := ⟨_, rfl⟩
        rw [← hp] at hpart hok
        obtain ⟨x, y, b⟩ := p
        dsimp only at hpart hok
        have HP := Lib.hid hp
        have HALL := Lib.hid hall
        have HB := Lib.hid hb
        have cs := fun X => Lib.hid (stickmay_any x y b X)
        have sz := hb.size
        clear hp hall hb
        by_cases hi : -127 ≤ x ∧ -127 ≤ y
        · rw [decide_eq_true hi] at cs
          have hnew := Lib.hid (show ∀ j, j < k + 1 → En.inOk (e.inp j) from fun j hj => by
            rcases HK.out j hj with rfl | h
            · rw [← HP.out]; exact hok.2 hi
            · exact HALL.out j h)
          clear hok hi
          go_wp2_with (go_at_call 95; ((with_reducible refine ((cs _).out).mono ?_); rintro r w2 ⟨rfl, hb⟩; have K2 := Lib.hid ((HB.out.alloc sz (.cells #[.int .i8 x, .int .i8 y, .int .u8 b] 39)).trans (hb.mono (by simp <;> omega))); clear hb))
          go_roundw
          case rel => exact ⟨k + 1, by omega, by go_num, K2.out, hnew.out⟩
          case measure => simp [intOf]; omega
        · rw [decide_eq_false hi] at cs
          have hno := Lib.hid (show ¬ En.Ok e from fun h => hi (by have := h.ins k hlt; rw [← HP.out] at this; exact this))
          clear hok hi
          go_wp2_with (go_at_call 95; ((with_reducible refine ((cs _).out).mono ?_); rintro r w2 ⟨rfl, hb⟩; have K2 := Lib.hid ((HB.out.alloc sz (.cells #[.int .i8 x, .int .i8 y, .int .u8 b] 39)).trans (hb.mono (by simp <;> omega))); clear hb))
          go_ret
          exact ⟨ret_bool (by rw [HV.out]; exact (decide_eq_false hno.out).symm), K2.out⟩
      · have hk8 : ¬ (k : Int) < 8 := by omega
        obtain rfl : k = 8 := by omega
        have hyes := Lib.hid (show En.Ok e from ⟨HF.out, HW.out, hall⟩)
        have HB := Lib.hid hb
        clear hall hb
        go_wp2
        go_ret
        exact ⟨ret_bool (by rw [HV.out]; exact (decide_eq_true hyes.out).symm), HB.out⟩
  · rw [decide_eq_false hrow] at cm
    have hno := Lib.hid (show ¬ En.Ok e from fun h => hrow h.row)
    clear hrow
    go_enter Tryz.func58, Tryz.ntmps58
    go_wp2_with (go_at_call 94; ((with_reducible refine ((cm _ hr0.out).out).mono ?_); rintro r w1 ⟨rfl, hb⟩; have K1 := Lib.hid (K0.out.trans (hb.mono K0.out.size)); clear hb))
    go_ret
    exact ⟨ret_bool (by rw [HV.out]; exact (decide_eq_false hno.out).symm), K1.out⟩
end Go.Proofs.YtiahpncglpfjeaaGreat
namespace Im
open Go
section
variable {α : Type} {dec : List Int → Option (α × List Int)}
end
theorem flat_take {ys : List (List Int)} {k : Nat} (h : k < ys.length) : (ys.take (k + 1)).flatten = (ys.take k).flatten ++ ys.getD k [] := by
  have e : ys.getD k [] = ys[k] := by simp [h]
  rw [List.take_succ_eq_append_getElem h, List.flatten_append, e]
  simp
theorem flat_le (ys : List (List Int)) (k : Nat) : (ys.take k).flatten.length ≤ ys.flatten.length := by
  have h : ys.flatten.length = (ys.take k).flatten.length + (ys.drop k).flatten.length := by
    rw [← List.length_append, ← List.flatten_append, List.take_append_drop]
  omega
end Im
namespace Go.Proofs.YtiahpncglpfjeaaGreat
open Go.RowKit Go.Shelf
set_option linter.unusedVariables false
set_option linter.unusedSimpArgs false

/-- All variables that hold bytes stay, but two. -/
def VarK (Bb P : Nat) (w w' : World) : Prop := ∀ g cs, Box w g 72 cs → g ≠ Bb → g ≠ P → Box w' g 72 cs
section
variable {b Bb P L : Nat} {w w' w'' : World}
theorem VarK.refl (w : World) : VarK Bb P w w := fun _ _ h _ _ => h
theorem VarK.trans (h : VarK Bb P w w') (k : VarK Bb P w' w'') : VarK Bb P w w'' := fun g cs hg h1 h2 => k g cs (h g cs hg h1 h2) h1 h2
theorem VarK.call (h : VarK Bb P w w') (hb : Below w'.heap.size w' w'') : VarK Bb P w w'' := fun g cs hg h1 h2 => (h g cs hg h1 h2).below hb (h g cs hg h1 h2).lt
theorem VarK.wrote (h : VarK Bb P w w') (k : Wrote b Bb w' w'') : VarK Bb P w w'' := fun g cs hg h1 h2 => (h g cs hg h1 h2).wrote k h1 (by decide)
theorem VarK.put (h : VarK Bb P w w') (i : Nat) (u : Value) : VarK Bb P w (w'.setCell ⟨P, i, none⟩ u) := fun g cs hg h1 h2 => (h g cs hg h1 h2).far (p := ⟨P, i, none⟩) h2 u
theorem VarK.fresh (h : VarK Bb P w w') (k : VarK Bb L w' w'') (hL : w.heap.size ≤ L) : VarK Bb P w w'' := fun g cs hg h1 h2 => k g cs (h g cs hg h1 h2) h1 (by have := hg.lt; omega)
end
/-- What the layout of one element does, when it writes: its bytes come behind the others; the element may be another one then. -/
def EachW (fe : Nat) (T : TypeId) (sz : Nat) (C : List Value) (ys : List (List Int)) (b Bb Bp : Nat) (w : World) : Prop :=
  ∀ (k S : Nat) (X : World) (Y : Array Value) (bs : List Int), k < ys.length → Below b w X → b ≤ S → Wr b Bb Bp bs X → bs.length + (ys.getD k []).length ≤ 65536 → Box X S T Y → (∀ j, j < sz → Y[k * sz + j]? = C[k * sz + j]?) →
    Calls Tryz.prog fe #[.func (.func 118) #[] #[.pointer (some ⟨Bp, 0, none⟩)], .pointer (some ⟨S, k * sz, none⟩)] X fun e w' => e = .returned (.tuple #[]) ∧ Wr b Bb Bp (bs ++ ys.getD k []) w' ∧ Below b X w' ∧ Kb S X w' ∧ VarK Bb S X w' ∧ ∃ Y', Box w' S T Y' ∧ Y'.size = Y.size ∧ ∀ j, (j < k * sz ∨ k * sz + sz ≤ j) → Y'[j]? = Y[j]?
/-- The elements of a list that was read, one by one. -/
def AllGood {α : Type} (sz : Nat) (Good : α → List Value → Prop) : List α → List (List Value) → Prop
  | [], [] => True
  | v :: l, C :: Cs => C.length = sz ∧ Good v C ∧ AllGood sz Good l Cs
  | _, _ => False
section
variable {α : Type} {sz : Nat} {Good Good' : α → List Value → Prop}
theorem AllGood.mono (hG : ∀ v C, Good v C → Good' v C) : ∀ {l : List α} {Cs : List (List Value)}, AllGood sz Good l Cs → AllGood sz Good' l Cs
  | [], [], _ => trivial
  | _ :: _, _ :: _, h => ⟨h.1, hG _ _ h.2.1, h.2.2.mono hG⟩
  | [], _ :: _, h => h.elim
  | _ :: _, [], h => h.elim
theorem AllGood.len : ∀ {l : List α} {Cs : List (List Value)}, AllGood sz Good l Cs → Cs.length = l.length ∧ Cs.flatten.length = l.length * sz
  | [], [], _ => ⟨rfl, by simp⟩
  | _ :: l, _ :: Cs, h => by
    have := h.2.2.len
    refine ⟨by simp [this.1], ?_⟩
    rw [List.flatten_cons, List.length_append, h.1, this.2, List.length_cons, Nat.add_mul]; omega
  | [], _ :: _, h => h.elim
  | _ :: _, [], h => h.elim
end
end Go.Proofs.YtiahpncglpfjeaaGreat
namespace Go.Proofs.YtiahpncglpfjeaaGreat
open Go.RowKit Go.Shelf
set_option linter.unusedVariables false
set_option linter.unusedSimpArgs false

theorem zsh_infoZ : (Tryz.prog.info? 90).map (fun i => (i.zero, i.size, i.bytes)) = some (some (Value.agg #[.int .i64 0, .int .i32 0, .int .i32 0, .int .i32 0, .int .i32 0, .int .i64 0]), 6, 32) := by kernel_rfl
theorem zsh_sz : (Tryz.prog.info? 90).map (·.size) = some 6 := by kernel_rfl

set_option maxRecDepth 100000 in
set_option maxHeartbeats 4000000 in
theorem listzsh_w (C : List Value) (ys : List (List Int)) (n : Nat) (A : Option Addr) (c size : Nat) (z : Int) (hz : z = size) (P o : Nat) (t : TypeId) (cs : Array Value) (bs : List Int) (b Bb Bp : Nat) (w : World) (hn : ys.length = n) (hn16 : n ≤ 4096) (hs : size ≤ 8) (hbB : b ≤ Bb) (hbP : b ≤ P) (hbw : b ≤ w.heap.size) (h : Wr b Bb Bp bs w) (hl : bs.length + size + ys.flatten.length ≤ 65536) (hP : Box w P t cs)
    (ho : cs[o]? = some (.slice A n c)) (hL : Lies w b 6 A n C) (hone : ∀ u ∈ C, u.oneCell' = true) (h1 : t ≠ 72) (h2 : t ≠ 5) (h3 : t ≠ 115) (hc : EachW 116 90 6 C ys b Bb Bp w) :
    Calls Tryz.prog 115 #[.func (.func 118) #[] #[.pointer (some ⟨Bp, 0, none⟩)], .int .i64 z, .pointer (some ⟨P, o, none⟩), .func (.func 116) #[] #[]] w fun e w' => e = .returned (.tuple #[]) ∧ Wr b Bb Bp (bs ++ (Im.bytesOf size n ++ ys.flatten)) w' ∧ Below b w w' ∧ Kb P w w' ∧ VarK Bb P w w' ∧ ∃ S, Box w' P t (cs.setIfInBounds o (.slice (some ⟨S, 0, none⟩) n n)) := by
  subst hz
  have k0 := hP.cell o
  rw [ho] at k0
  have ltP := hP.lt
  have hwn : IntKind.u64.wrap (n : Int) = n := by rw [IntKind.wrap_u64]; omega
  have HL := Lib.hid (Box.made w 3 #[.int .i64 n])
  have HPA := Lib.hid (hP.alloc (.cells #[.int .i64 n] 3))
  have HA := Lib.hid (h.alloc (.cells #[.int .i64 n] 3))
  have WA := Lib.hid ((Wrote.refl hbB w).alloc (.cells #[.int .i64 n] 3))
  have KA := Lib.hid ((Kb.refl (B := P) w).call (one_below w (.cells #[.int .i64 n] 3)))
  have VA := Lib.hid ((VarK.refl (Bb := Bb) (P := P) w).call (one_below w (.cells #[.int .i64 n] 3)))
  have c1 := Lib.hid (layint_w size size rfl n w.heap.size 0 3 #[.int .i64 n] bs b Bb Bp _ hs (by omega) hbB HA.out (by omega) HL.out rfl (by decide) (by decide) (by decide))
  rw [hwn] at c1
  have hvar := Lib.hid HA.out.isvar
  have HO := Lib.hid ho
  have HLs := Lib.hid hL
  obtain ⟨i0, hi0, hz0, hz1, hz2⟩ := info_parts zsh_infoZ
  obtain ⟨Z, hZ⟩ : ∃ Z, Z = madeCells (Value.agg #[.int .i64 0, .int .i32 0, .int .i32 0, .int .i32 0, .int .i32 0, .int .i64 0]).cells (n * 6) := ⟨_, rfl⟩
  have hZs : Z.size = n * 6 := by rw [hZ, size_madeCells]
  have hCs : C.length = n * 6 := hL.len
  have hmk : ∀ W : World, (Instr.makeSlice 26 (.int .i64 (n : Int)) (.int .i64 (n : Int))).run Tryz.prog W = .ok (.slice (some ⟨W.heap.size, 0, none⟩) n n) (W.alloc (.cells Z 90)) := fun W => by
    have := run_make (P := Tryz.prog) W 26 90 i0 _ Tryz.underlying26 hi0 hz0 .i64 .i64 n n (by omega) (Int.le_refl _) (by rw [hz2]; omega) (by omega)
    rw [this, hZ, hz1, Int.toNat_natCast]
  have hcp : ∀ W : World, Lies W W.heap.size 6 A n C → (Builtin.copy_ #[26, 26] 3 #[.slice (some ⟨W.heap.size, 0, none⟩) n n, .slice A n c]).run Tryz.prog (W.alloc (.cells Z 90)) = .ok (.int .i64 n) (W.alloc (.cells C.toArray 90)) := fun W hW => by
    cases A with
    | none =>
      have hn0 : n = 0 := by
        by_cases h0 : n = 0
        · exact h0
        · obtain ⟨ad, e, _⟩ := hW.start h0
          cases e
      have hl0 : C = [] := List.eq_nil_of_length_eq_zero (by omega)
      have hz : Z = #[] := Array.eq_empty_of_size_eq_zero (by omega)
      have := run_copy_nought (P := Tryz.prog) (W.alloc (.cells Z 90)) 26 26 3 90 ⟨W.heap.size, 0, none⟩ n n c Tryz.underlying26 (by rw [Option.isSome_map]; rw [hi0]; rfl)
      rw [hn0] at this ⊢
      rw [hl0]
      rw [hz] at this ⊢
      simpa [goInt] using this
    | some ad =>
      have hc : ∀ j v, C[j]? = some v → (W.alloc (.cells Z 90)).cell? (ad.add j) = some v := fun j v hv => by
        have hn0 : n ≠ 0 := fun e => by
          have := (List.getElem?_eq_some_iff.1 hv).1
          omega
        exact (hW.below (one_below W (.cells Z 90))).cell ad rfl hn0 j v hv
      have := run_copy_rows (P := Tryz.prog) (W.alloc (.cells Z 90)) 26 26 3 90 6 W.heap.size n n ad n c Z 90 C Tryz.underlying26 zsh_sz (Box.made W _ _).is (by rw [hW.len]; simp) hc (by rw [hW.len, hZs]) hone
      rw [World.setRow_alloc_new] at this
      simpa [goInt] using this
  have NL := Lib.hid hn
  have HC := Lib.hid hc
  have HCS := Lib.hid hCs
  clear h hP ho hL hZ hn hc hCs
  go_enter Tryz.func115, Tryz.ntmps115
  go_upto_region 2 with (go_at_call 112; ((with_reducible refine (c1.out).mono ?_); rintro e w1 ⟨rfl, hI1, hK1⟩; have L1 := HL.out.wrote' hK1 hvar.out (by decide) (by decide); have l1 := L1.cell 0; have P1 := Lib.hid (HPA.out.wrote' hK1 hvar.out h1 h2); have I1 := Lib.hid hI1; have K1 := Lib.hid (WA.out.trans hK1); have B1 := Lib.hid (KA.out.wrote hK1 hvar.out); have V1 := Lib.hid (VA.out.wrote hK1); clear hI1 hK1 L1 k0))
  have lw1 := (HLs.out.below (K1.out.to hbw))
  have hcpw := hcp w1 (lw1.wider (Nat.le_trans hbw K1.out.size))
  have p58 : ∀ x, (w1.alloc x).cell? ⟨P, o, none⟩ = some (.slice A n c) := fun x => ((P1.out.alloc x).cell o).trans HO.out
  have sz1 : w.heap.size ≤ w1.heap.size := K1.out.size
  clear hcp lw1 HLs HL HPA HA WA KA VA c1
  go_upto_region 4 with fail
  obtain ⟨U, hU⟩ : ∃ U, U = w1.alloc (.cells C.toArray 90) := ⟨_, rfl⟩
  have PU : Box U P t cs := by rw [hU]; exact P1.out.alloc _
  have SU : Box U w1.heap.size 90 C.toArray := by rw [hU]; exact Box.made w1 _ _
  have IU : Wr b Bb Bp (bs ++ Im.bytesOf size n) U := by rw [hU]; exact I1.out.alloc _
  have BU : Below b w U := by rw [hU]; exact (K1.out.to hbw).alloc (Nat.le_trans hbw sz1) _
  have KU : Kb P w U := by rw [hU]; exact B1.out.call (one_below _ _)
  have VU : VarK Bb P w U := by rw [hU]; exact V1.out.call (one_below _ _)
  have hSP : w1.heap.size ≠ P := by have := P1.out.lt; omega
  have hbS : b ≤ w1.heap.size := Nat.le_trans hbw sz1
  have hSw : w.heap.size ≤ w1.heap.size := sz1
  rw [← hU]
  generalize w1.heap.size = S at *
  have IU := Lib.hid IU
  have PU := Lib.hid PU
  have SU := Lib.hid SU
  have BU := Lib.hid BU
  have KU := Lib.hid KU
  have VU := Lib.hid VU
  clear hU I1 K1 P1 B1 V1 p58 hcpw hmk l1 hvar sz1
  go_upto_region 5 with fail
  go_loopw [10, 27] (fun _ i wr => ∃ k : Nat, k ≤ n ∧ i = .int .i64 k ∧ Wr b Bb Bp (bs ++ Im.bytesOf size n ++ (ys.take k).flatten) wr ∧ Below b U wr ∧ Kb S U wr ∧ VarK Bb S U wr ∧ ∃ Y, Box wr S 90 Y ∧ Y.size = C.length ∧ ∀ j, k * 6 ≤ j → Y[j]? = C[j]?) (fun _ i _ => n - (intOf i).toNat)
  case atStart => exact ⟨0, by omega, rfl, by simpa using IU.out, Below.refl _ _, Kb.refl _, VarK.refl _, _, SU.out, by simp, fun j _ => by simp⟩
  case round =>
    obtain ⟨k, hk, rfl, hI, hB, hK, hVK, Y, hY, hYs, hYc⟩ := hrel
    by_cases hlt : k < n
    · have hk8 : (k : Int) < n := by omega
      have hkl : k < ys.length := by have := NL.out; omega
      have ht := Im.flat_take hkl
      have hle := Im.flat_le ys (k + 1)
      rw [ht, List.length_append] at hle
      have HT := Lib.hid ht
      have cc := Lib.hid (HC.out k S wr Y (bs ++ Im.bytesOf size n ++ (ys.take k).flatten) hkl (BU.out.trans hB) hbS hI (by rw [List.length_append, List.length_append, Im.bytesOf_len]; omega) hY (fun j hj => hYc _ (by omega)))
      have HB := Lib.hid hB
      have HK := Lib.hid hK
      have HVK := Lib.hid hVK
      have HYs := Lib.hid hYs
      have HYc := Lib.hid hYc
      clear ht hle hI hB hK hVK hYs hYc hY
      go_wp2_with (go_at_call 116; ((with_reducible refine (cc.out).mono ?_); rintro e w3 ⟨rfl, hI, hB, hK, hVK, Y', hY, hYs, hYc⟩; have V3 := Lib.hid (HVK.out.trans hVK); have I3 := Lib.hid hI; have B3 := Lib.hid (HB.out.trans hB); have K3 := Lib.hid (HK.out.trans hK); have Y3 := Lib.hid hY; have Z3 := Lib.hid (hYs.trans HYs.out); have C3 := Lib.hid hYc; clear hI hB hK hVK hY hYs hYc))
      go_roundw
      case rel => exact ⟨k + 1, by omega, by go_num, by rw [HT.out, ← List.append_assoc]; exact I3.out, B3.out, K3.out, V3.out, Y', Y3.out, Z3.out, fun j hj => by rw [C3.out j (by omega)]; exact HYc.out j (by omega)⟩
      case measure => simp [intOf]; omega
    · have hk8 : ¬ (k : Int) < n := by omega
      obtain rfl : k = n := by omega
      have ht : ys.take k = ys := List.take_of_length_le (by have := NL.out; omega)
      rw [ht] at hI
      have HI := Lib.hid hI
      have HK := Lib.hid hK
      have HB := Lib.hid hB
      have HVK := Lib.hid hVK
      have PW := Lib.hid (hK P t cs PU.out hSP.symm h1 h2)
      have pc : wr.cell? ⟨P, o, none⟩ = some (.slice A k c) := (PW.out.cell o).trans HO.out
      have pf : wr.frozen? ⟨P, o, none⟩ = false := PW.out.free o
      clear hI hK hB hVK hY hYs hYc
      go_wp2
      go_end0
      exact ⟨rfl, by rw [← List.append_assoc]; exact HI.out.off (p := ⟨P, o, none⟩) PW.out h3 h1 h2 _, (BU.out.trans HB.out).setCell hbP _, (KU.out.fresh HK.out hSw).put o _, (VU.out.fresh HVK.out hSw).put o _, S, PW.out.put o _⟩

end Go.Proofs.YtiahpncglpfjeaaGreat
namespace Go.Proofs.YtiahpncglpfjeaaGreat
open Go.RowKit Go.Shelf
set_option linter.unusedVariables false
set_option linter.unusedSimpArgs false
set_option maxRecDepth 100000 in
set_option maxHeartbeats 4000000 in
theorem layshot_w (s : Gm.Shot) (hok : Gm.okShot s) (P o : Nat) (t : TypeId) (cs : Array Value) (bk : List Int) (b Bb Bp : Nat) (w : World) (hbB : b ≤ Bb) (h : Wr b Bb Bp bk w) (hl : bk.length + 18 ≤ 65536) (hP : Box w P t cs)
    (sc : ∀ j, j < 6 → cs[o + j]? = s.cells[j]?) (h1 : t ≠ 72) (h2 : t ≠ 5) (h3 : t ≠ 115) :
    Calls Tryz.prog 116 #[.func (.func 118) #[] #[.pointer (some ⟨Bp, 0, none⟩)], .pointer (some ⟨P, o, none⟩)] w fun e w' => e = .returned (.tuple #[]) ∧ Wr b Bb Bp (bk ++ Im.shot s) w' ∧ Wrote b Bb w w' := by
  obtain ⟨owner, x, y, vx, vy, left⟩ := s
  have s0 := sc 0 (by omega)
  have s1 := sc 1 (by omega)
  have s2 := sc 2 (by omega)
  have s3 := sc 3 (by omega)
  have s4 := sc 4 (by omega)
  have s5 := sc 5 (by omega)
  simp only [Gm.Shot.cells, List.getElem?_cons_zero, List.getElem?_cons_succ, Nat.add_zero] at s0 s1 s2 s3 s4 s5
  obtain ⟨w0, w1', ⟨w2, w2'⟩, ⟨w3, w3'⟩, ⟨w4, w4'⟩, ⟨w5, w5'⟩, w6, w6'⟩ := hok
  dsimp only at w0 w1' w2 w2' w3 w3' w4 w4' w5 w5' w6 w6'
  have HSN := Lib.hid (show bk ++ Im.shot ⟨owner, x, y, vx, vy, left⟩ = bk ++ Im.bytesOf 1 owner ++ Im.flight (fun k => match k with | 0 => x | 1 => y | 2 => vx | _ => vy) 4 ++ Im.bytesOf 1 left from (show ∀ a b c d : List Int, a ++ (b ++ (c ++ d)) = a ++ b ++ c ++ d from fun a b c d => by simp) _ _ _ _)
  have hwo : IntKind.u64.wrap owner = owner := by rw [IntKind.wrap_u64]; omega
  have hwl : IntKind.u64.wrap left = left := by rw [IntKind.wrap_u64]; omega
  have P2 := Lib.hid hP
  have IV2 := Lib.hid h.isvar
  have ltP := hP.lt
  have c3 := Lib.hid (layint_w 1 1 rfl owner P o t cs bk b Bb Bp w (by decide) (by omega) hbB h (by omega) P2.out s0 h1 h2 h3)
  rw [hwo] at c3
  have p2 := P2.out.cell
  clear sc h hwo hP
  go_enter Tryz.func116, Tryz.ntmps116
  go_upto_region 1 with (go_at_call 112; ((with_reducible refine (c3.out).mono ?_); rintro e w3 ⟨rfl, hI, hK⟩; have P3 := Lib.hid (P2.out.wrote' hK IV2.out h1 h2); have p3 := P3.out.cell; have IV3 := Lib.hid hI.isvar; have I3 := Lib.hid hI; have K3 := Lib.hid hK; clear hI hK))
  have lf := Im.flight_len (fun k => match k with | 0 => x | 1 => y | 2 => vx | _ => vy) 4
  have cf := fun X (hX : Wr b Bb Bp (bk ++ Im.bytesOf 1 owner) X) (hB : Box X P t cs) Bq hq => Lib.hid (layflight_w (fun k => match k with | 0 => x | 1 => y | 2 => vx | _ => vy) (fun j => o + 1 + j) P Bq t cs (bk ++ Im.bytesOf 1 owner) b Bb Bp X (fun k hk => by
    match k, hk with
    | 0, _ => exact (show -2147483648 ≤ x ∧ x ≤ 2147483647 by omega)
    | 1, _ => exact (show -2147483648 ≤ y ∧ y ≤ 2147483647 by omega)
    | 2, _ => exact (show -2147483648 ≤ vx ∧ vx ≤ 2147483647 by omega)
    | 3, _ => exact (show -2147483648 ≤ vy ∧ vy ≤ 2147483647 by omega)) hbB hX (by rw [List.length_append, Im.bytesOf_len]; omega) hB (fun k hk => by
    match k, hk with
    | 0, _ => exact s1
    | 1, _ => exact s2
    | 2, _ => exact s3
    | 3, _ => exact s4) h1 h2 h3 hq 4)
  refine Rp.wp_region_lex (by kernel_rfl) [] (by kernel_rfl) (· = w3.drew) (fun _ => True) (fun _ => True) rfl (fun W hW => ⟨trivial, trivial⟩) ?_
  repeat (first
    | (apply Rp.lex_free rfl rfl; focus (intro _; go_simp; first | done | rfl))
    | (apply Rp.lex_look rfl rfl rfl rfl; focus (intro W hW; clear hW; go_simp; first | done | rfl)))
  refine Rp.lex_make rfl (W' := w3.drew.alloc (.cells #[.pointer (some ⟨P, o + 1, none⟩), .pointer (some ⟨P, o + 2, none⟩), .pointer (some ⟨P, o + 3, none⟩), .pointer (some ⟨P, o + 4, none⟩)] 168)) (v := .slice (some ⟨w3.drew.heap.size, 0, none⟩) 4 4) ?_ ⟨trivial, trivial⟩ ?_
  focus (go_simp; first | done | rfl)
  refine Rp.lex_call (C' := fun Z => Wr b Bb Bp (bk ++ Im.bytesOf 1 owner ++ Im.flight (fun k => match k with | 0 => x | 1 => y | 2 => vx | _ => vy) 4) Z ∧ Wrote b Bb w Z ∧ Box Z P t cs) (v := .tuple #[]) (f := 137) (args := #[.func (.func 118) #[] #[.pointer (some ⟨Bp, 0, none⟩)], .slice (some ⟨w3.drew.heap.size, 0, none⟩) 4 4]) rfl ?_ ?_ ?_ ?_
  · intro Z hZ; clear hZ; go_simp; first | done | rfl | exact ⟨rfl, rfl⟩
  · intro Z hZ
    subst hZ
    have hW := (I3.out.call (one_below' w3)).alloc (.cells #[.pointer (some ⟨P, o + 1, none⟩), .pointer (some ⟨P, o + 2, none⟩), .pointer (some ⟨P, o + 3, none⟩), .pointer (some ⟨P, o + 4, none⟩)] 168)
    refine (cf _ hW (P3.out.drew.alloc _) w3.drew.heap.size (Box.made _ _ _)).out.mono ?_
    rintro e Z2 ⟨rfl, hI2, hK2⟩
    exact ⟨rfl, hI2, (K3.out.drew.alloc _).trans hK2, (P3.out.drew.alloc _).wrote' hK2 hW.isvar h1 h2⟩
  · exact fun Z hZ => ⟨trivial, trivial⟩
  refine Rp.lex_end fun W4 hW4 => ?_
  obtain ⟨hI4, hK4, hP4⟩ := hW4
  have P4 := Lib.hid hP4
  have p4 := P4.out.cell
  have IV4 := Lib.hid hI4.isvar
  have K4 := Lib.hid hK4
  have c5 := Lib.hid (layint_w 1 1 rfl left P (o + 5) t _ _ b Bb Bp W4 (by decide) (by omega) hbB hI4 (by rw [List.length_append, List.length_append, Im.bytesOf_len, lf]; omega) hP4 s5 h1 h2 h3)
  rw [hwl] at c5
  generalize Im.flight (fun k => match k with | 0 => x | 1 => y | 2 => vx | _ => vy) 4 = FL at *
  clear hI4 hK4 hP4 cf lf hwl s0 s1 s2 s3 s4 s5 p3 p2 c3
  go_wp2_with (go_at_call 112; ((with_reducible refine (c5.out).mono ?_); rintro e w5 ⟨rfl, hI, hK⟩; have P5 := Lib.hid (P4.out.wrote' hK IV4.out h1 h2); have IV5 := Lib.hid hI.isvar; have I5 := Lib.hid hI; have K5 := Lib.hid (K4.out.trans hK); clear hI hK))
  go_end0
  exact ⟨rfl, by rw [HSN.out]; exact I5.out, K5.out⟩
theorem eachshot_w (l : List Gm.Shot) (hok : ∀ s ∈ l, Gm.okShot s) (b Bb Bp : Nat) (w : World) (hbB : b ≤ Bb) (hbw : b ≤ w.heap.size) : EachW 116 90 6 (Gm.shotCells l) (l.map Im.shot) b Bb Bp w := by
  intro k S X Y bs hk hB hbS hI hl hY hc
  rw [List.length_map] at hk
  have e : (l.map Im.shot).getD k [] = Im.shot l[k] := by simp [hk]
  rw [e] at hl ⊢
  have ok := hok l[k] (List.getElem_mem hk)
  have sc : ∀ j, j < 6 → Y[k * 6 + j]? = (l[k]).cells[j]? := fun j hj => by rw [hc j hj]; exact Gm.shotCells_at l k j hk hj
  rw [Im.shot_len] at hl
  refine (layshot_w l[k] ok S (k * 6) 90 Y bs b Bb Bp X hbB hI hl hY sc (by decide) (by decide) (by decide)).mono ?_
  rintro e w' ⟨rfl, h1, h2⟩
  have hv := hI.isvar
  exact ⟨rfl, h1, h2.to (Nat.le_trans hbw hB.size), (Kb.refl X).wrote h2 hv, (VarK.refl X).wrote h2, Y, hY.wrote' h2 hv (by decide) (by decide), rfl, fun _ _ => rfl⟩
theorem layshotl_w (l : List Gm.Shot) (n : Nat) (A : Option Addr) (c B : Nat) (t : TypeId) (cs : Array Value) (bs : List Int) (b Bb Bp : Nat) (w : World) (hn : n = l.length) (hn32 : n ≤ 32) (hok : ∀ s ∈ l, Gm.okShot s) (hbB : b ≤ Bb) (hbP : b ≤ B) (hbw : b ≤ w.heap.size) (h : Wr b Bb Bp bs w) (hl : bs.length + 1 + 18 * 32 ≤ 65536) (hP : Box w B t cs)
    (ho : cs[58]? = some (.slice A n c)) (hL : Lies w b 6 A n (Gm.shotCells l)) (h1 : t ≠ 72) (h2 : t ≠ 5) (h3 : t ≠ 115) (h4 : t ≠ 90) :
    Calls Tryz.prog 115 #[.func (.func 118) #[] #[.pointer (some ⟨Bp, 0, none⟩)], .int .i64 1, .pointer (some ⟨B, 58, none⟩), .func (.func 116) #[] #[]] w fun e w' => e = .returned (.tuple #[]) ∧ Wr b Bb Bp (bs ++ (Im.bytesOf 1 n ++ Im.shots l)) w' ∧ Below b w w' ∧ Kb B w w' ∧ ∃ S, Box w' B t (cs.setIfInBounds 58 (.slice (some ⟨S, 0, none⟩) n n)) := by
  have he := Im.shots_len l
  have hf : (l.map Im.shot).flatten = Im.shots l := rfl
  refine (listzsh_w (Gm.shotCells l) (l.map Im.shot) n A c 1 1 rfl B 58 t cs bs b Bb Bp w (by rw [List.length_map, hn]) (by omega) (by decide) hbB hbP hbw h (by rw [hf]; omega) hP ho hL (shotCells_one l) h1 h2 h3 (eachshot_w l hok b Bb Bp w hbB hbw)).mono ?_
  rintro e w' ⟨rfl, h1, h2, h3, _, h4⟩
  exact ⟨rfl, h1, h2, h3, h4⟩
end Go.Proofs.YtiahpncglpfjeaaGreat
namespace Go.Proofs.YtiahpncglpfjeaaGreat
open Go.RowKit Go.Shelf
set_option linter.unusedVariables false

/-- The 76 cells of a state whose shots are the slice s. -/
def Im.cells (g : Gm.G) (s : Value) (r : Ros.R) : Array Value := Gm.cells g s ++ Ros.cells r
theorem Im.cells_size (g : Gm.G) (s : Value) (r : Ros.R) : (Im.cells g s r).size = 76 := by unfold Im.cells; rw [Array.size_append, Gm.cells_size, Ros.cells_size]
theorem Im.cells_g (g : Gm.G) (s : Value) (r : Ros.R) (i : Nat) (hi : i < 59) : (Im.cells g s r)[i]? = (Gm.cells g s)[i]? := by
  unfold Im.cells; rw [Array.getElem?_append_left (by rw [Gm.cells_size]; exact hi)]
theorem Im.cells_r (g : Gm.G) (s : Value) (r : Ros.R) (i : Nat) : (Im.cells g s r)[59 + i]? = (Ros.cells r)[i]? := by
  unfold Im.cells; rw [Array.getElem?_append_right (by rw [Gm.cells_size]; omega), Gm.cells_size]; congr 1; omega
theorem Im.cells_ship (g : Gm.G) (s : Value) (r : Ros.R) (k j : Nat) (hk : k < 8) (hj : j < 7) : (Im.cells g s r)[2 + k * 7 + j]? = (g.ship k).cells[j]? :=
  (Im.cells_g g s r _ (by omega)).trans (Gm.cells_ship g s k j hk hj)
theorem Im.cells_peer (g : Gm.G) (s : Value) (r : Ros.R) (k : Nat) (hk : k < 8) : (Im.cells g s r)[60 + k * 2]? = some (.int .i64 (r.peer k)) := by
  rw [show 60 + k * 2 = 59 + (1 + k * 2) by omega, Im.cells_r]; exact Ros.cells_peer r k hk
theorem Im.cells_gen (g : Gm.G) (s : Value) (r : Ros.R) (k : Nat) (hk : k < 8) : (Im.cells g s r)[60 + k * 2 + 1]? = some (.int .i64 (r.gen k)) := by
  rw [show 60 + k * 2 + 1 = 59 + (1 + k * 2 + 1) by omega, Im.cells_r]; exact Ros.cells_gen r k hk
theorem Im.cells_shots (g : Gm.G) (s s' : Value) (r : Ros.R) : (Im.cells g s r).setIfInBounds 58 s' = Im.cells g s' r := by
  unfold Im.cells Gm.cells Ros.cells
  simp only [List.append_toArray, List.setIfInBounds_toArray]
  congr 1
def Im.ships (f : Nat → Gm.Ship) : Nat → List Int
  | 0 => []
  | k + 1 => Im.ships f k ++ Im.ship (f k)
theorem Im.ship_len (s : Gm.Ship) : (Im.ship s).length = if s.on = true then 22 else 1 := by
  unfold Im.ship
  split
  · rw [List.length_append, List.length_append, List.length_append, Im.bytesOf_len, Im.bytesOf_len, Im.bytesOf_len, Im.flight_len]
  · rfl
theorem Im.ship_le (s : Gm.Ship) : (Im.ship s).length ≤ 22 := by rw [Im.ship_len]; split <;> omega
theorem Im.ships_le (f : Nat → Gm.Ship) : ∀ k, (Im.ships f k).length ≤ 22 * k
  | 0 => Nat.le_refl _
  | k + 1 => by
    show (Im.ships f k ++ Im.ship (f k)).length ≤ _
    have := Im.ships_le f k
    have := Im.ship_le (f k)
    rw [List.length_append]; omega
def Im.seats (r : Ros.R) : Nat → List Int
  | 0 => []
  | k + 1 => Im.seats r k ++ (Im.bytesOf 1 (r.peer k + 1) ++ Im.bytesOf 2 (r.gen k))
theorem Im.seats_len (r : Ros.R) : ∀ k, (Im.seats r k).length = 3 * k
  | 0 => rfl
  | k + 1 => by
    show (Im.seats r k ++ _).length = _
    rw [List.length_append, List.length_append, Im.seats_len r k, Im.bytesOf_len, Im.bytesOf_len]; omega
/-- A state's bytes. -/
def Im.put (g : Gm.G) (r : Ros.R) : List Int :=
  Im.bytesOf 4 g.frame ++ (Im.bytesOf 8 g.dice ++ (Im.ships g.ship 8 ++ ((Im.bytesOf 1 g.shots.length ++ Im.shots g.shots) ++ (Im.bytesOf 4 r.version ++ Im.seats r 8))))

theorem layship_w (s : Gm.Ship) (P o : Nat) (t : TypeId) (cs : Array Value) (bs : List Int) (b Bb Bp : Nat) (w : World) (ok : Gm.okShip s) (hbB : b ≤ Bb) (h : Wr b Bb Bp bs w) (hl : bs.length + 22 ≤ 65536) (hP : Box w P t cs) (hc : ∀ j, j < 7 → cs[o + j]? = s.cells[j]?) (h1 : t ≠ 72) (h2 : t ≠ 5) (h3 : t ≠ 115) :
    Calls Tryz.prog 114 #[.func (.func 118) #[] #[.pointer (some ⟨Bp, 0, none⟩)], .pointer (some ⟨P, o, none⟩)] w fun e w' => e = .returned (.tuple #[]) ∧ Wr b Bb Bp (bs ++ Im.ship s) w' ∧ Wrote b Bb w w' := by
  obtain ⟨on, x, y, vx, vy, cool, score⟩ := s
  have s0 := hc 0 (by omega)
  have s1 := hc 1 (by omega)
  have s2 := hc 2 (by omega)
  have s3 := hc 3 (by omega)
  have s4 := hc 4 (by omega)
  have s5 := hc 5 (by omega)
  have s6 := hc 6 (by omega)
  simp only [Gm.Ship.cells, List.getElem?_cons_zero, List.getElem?_cons_succ, Nat.add_zero] at s0 s1 s2 s3 s4 s5 s6
  obtain ⟨w0, ⟨w2, w2'⟩, ⟨w3, w3'⟩, ⟨w4, w4'⟩, ⟨w5, w5'⟩, w6, w6', w7, w7'⟩ := ok
  dsimp only at w0 w2 w2' w3 w3' w4 w4' w5 w5' w6 w6' w7 w7'
  cases on
  · exact layship_off P o t cs bs b Bb Bp w hbB h (by omega) hP s0 h1 h2 h3
  · exact layship_on x y vx vy cool score P o t cs bs b Bb Bp w hbB h hl hP s0 s1 s2 s3 s4 s5 s6 (by omega) (by omega) (by omega) (by omega) ⟨w6, w6'⟩ ⟨w7, w7'⟩ h1 h2 h3

set_option maxRecDepth 100000 in
set_option maxHeartbeats 4000000 in
theorem laystate_w (g : Gm.G) (r : Ros.R) (n : Nat) (A : Option Addr) (c B : Nat) (bs : List Int) (b Bb Bp : Nat) (w : World) (hn : n = g.shots.length) (hg : Gm.ok g) (hd : 0 ≤ g.dice ∧ g.dice ≤ 18446744073709551615) (hr : Ros.Ok r) (hbB : b ≤ Bb) (hbP : b ≤ B) (hbw : b ≤ w.heap.size) (h : Wr b Bb Bp bs w) (hl : bs.length ≤ 64000) (hP : Box w B 35 (Im.cells g (.slice A n c) r))
    (hL : Lies w b 6 A n (Gm.shotCells g.shots)) :
    Calls Tryz.prog 74 #[.func (.func 118) #[] #[.pointer (some ⟨Bp, 0, none⟩)], .pointer (some ⟨B, 0, none⟩)] w fun e w' => e = .returned (.tuple #[]) ∧ Wr b Bb Bp (bs ++ Im.put g r) w' ∧ Below b w w' ∧ Kb B w w' := by
  have hw0 : IntKind.u64.wrap g.frame = g.frame := by rw [IntKind.wrap_u64]; have := hg.1; have := hg.2.1; omega
  have hw59 : IntKind.u64.wrap r.version = r.version := by rw [IntKind.wrap_u64]; have := hr.1; omega
  have e0 : (Im.cells g (.slice A n c) r)[0]? = some (.int .i64 g.frame) := (Im.cells_g _ _ _ 0 (by omega)).trans (Gm.cells_0 _ _)
  have e1 : (Im.cells g (.slice A n c) r)[1]? = some (.int .u64 g.dice) := (Im.cells_g _ _ _ 1 (by omega)).trans (Gm.cells_1 _ _)
  have c1 := Lib.hid (layint_w 4 4 rfl g.frame B 0 35 _ bs b Bb Bp w (by decide) (by have := hg.1; have := hg.2.1; omega) hbB h (by omega) hP e0 (by decide) (by decide) (by decide))
  rw [hw0] at c1
  have c2 := fun X (hX : Wr b Bb Bp (bs ++ Im.bytesOf 4 g.frame) X) (hB : Box X B 35 (Im.cells g (.slice A n c) r)) => Lib.hid (layu64_w 8 8 rfl g.dice B 1 35 _ _ b Bb Bp X (by decide) hd hbB hX (by rw [List.length_append, Im.bytesOf_len]; omega) hB e1 (by decide) (by decide) (by decide))
  have IV0 := Lib.hid h.isvar
  have P0 := Lib.hid hP
  have K0 := Lib.hid (Wrote.refl hbB w)
  have LL := Lib.hid hL
  have HG := Lib.hid hg
  have HR := Lib.hid hr
  have NL := Lib.hid hn
  have HV := Lib.hid hw59
  have ltP := hP.lt
  clear h hP hL hn hg hr hw0 hw59 e0 e1
  go_enter Tryz.func74, Tryz.ntmps74
  go_wp2_with (first | (go_at_call 112; ((with_reducible refine (c1.out).mono ?_); rintro e w1 ⟨rfl, hI, hK⟩; have P1 := Lib.hid (P0.out.wrote' hK IV0.out (by decide) (by decide)); have IV1 := Lib.hid hI.isvar; have I1 := Lib.hid hI; have K1 := Lib.hid (K0.out.trans hK); clear hI hK)) | (go_at_call 113; ((with_reducible refine ((c2 _ I1.out P1.out).out).mono ?_); rintro e w2 ⟨rfl, hI, hK⟩; have P2 := Lib.hid (P1.out.wrote' hK IV1.out (by decide) (by decide)); have IV2 := Lib.hid hI.isvar; have I2 := Lib.hid hI; have K2 := Lib.hid (K1.out.trans hK); clear hI hK)))
  go_loopw [18] (fun i wr => ∃ k : Nat, k ≤ 8 ∧ i = .int .i64 k ∧ Wr b Bb Bp (bs ++ Im.bytesOf 4 g.frame ++ Im.bytesOf 8 g.dice ++ Im.ships g.ship k) wr ∧ Wrote b Bb w wr) (fun i _ => 8 - (intOf i).toNat)
  case atStart => exact ⟨0, by omega, rfl, by simpa [Im.ships] using I2.out, K2.out⟩
  case round =>
    obtain ⟨k, hk, rfl, hI, hK⟩ := hrel
    clear I1 P1 IV1 K1 I2 P2 IV2 K2 c1 c2
    by_cases hlt : k < 8
    · have hk8 : (k : Int) < 8 := by omega
      have P3 := P0.out.wrote' hK IV0.out (by decide) (by decide)
      have hsl := Im.ships_le g.ship k
      have c3 := Lib.hid (layship_w (g.ship k) B (2 + k * 7) 35 _ _ b Bb Bp wr (HG.out.2.2.2.1 k hlt) hbB hI (by rw [List.length_append, List.length_append, List.length_append, Im.bytesOf_len, Im.bytesOf_len]; omega) P3 (fun j hj => Im.cells_ship g _ r k j hlt hj) (by decide) (by decide) (by decide))
      have HSN := Lib.hid (show bs ++ Im.bytesOf 4 g.frame ++ Im.bytesOf 8 g.dice ++ Im.ships g.ship k ++ Im.ship (g.ship k) = bs ++ Im.bytesOf 4 g.frame ++ Im.bytesOf 8 g.dice ++ Im.ships g.ship (k + 1) by simp [Im.ships])
      have HK := Lib.hid hK
      clear hI hK P3
      go_wp2_with (go_at_call 114; ((with_reducible refine (c3.out).mono ?_); rintro e w4 ⟨rfl, hI, hK⟩; have I4 := Lib.hid hI; have K4 := Lib.hid (HK.out.trans hK); clear hI hK))
      go_roundw
      case rel => exact ⟨k + 1, by omega, by go_num, by rw [← HSN.out]; exact I4.out, K4.out⟩
      case measure => simp [intOf]; omega
    · have hk8 : ¬ (k : Int) < 8 := by omega
      obtain rfl : k = 8 := by omega
      have P3 := P0.out.wrote' hK IV0.out (by decide) (by decide)
      have hsl := Im.ships_le g.ship 8
      have hn32 : g.shots.length ≤ 32 := HG.out.2.2.1
      have hshl := Im.shots_len g.shots
      have c5 := Lib.hid (layshotl_w g.shots n A c B 35 (Im.cells g (.slice A n c) r) _ b Bb Bp wr NL.out (by have := NL.out; omega) HG.out.way.shots hbB hbP (Nat.le_trans hbw hK.size) hI (by rw [List.length_append, List.length_append, List.length_append, Im.bytesOf_len, Im.bytesOf_len]; omega) P3 ((Im.cells_g _ _ _ 58 (by omega)).trans (Gm.cells_58 _ _)) (LL.out.below (hK.to hbw)) (by decide) (by decide) (by decide) (by decide))
      have lens : (bs ++ Im.bytesOf 4 g.frame ++ Im.bytesOf 8 g.dice ++ Im.ships g.ship 8 ++ (Im.bytesOf 1 n ++ Im.shots g.shots)).length ≤ 65000 := by
        rw [List.length_append, List.length_append, List.length_append, List.length_append, List.length_append, Im.bytesOf_len, Im.bytesOf_len, Im.bytesOf_len, hshl]; omega
      have HN := Lib.hid (show bs ++ Im.put g r = bs ++ Im.bytesOf 4 g.frame ++ Im.bytesOf 8 g.dice ++ Im.ships g.ship 8 ++ (Im.bytesOf 1 n ++ Im.shots g.shots) ++ Im.bytesOf 4 r.version ++ Im.seats r 8 by rw [NL.out]; simp [Im.put])
      generalize hbk : bs ++ Im.bytesOf 4 g.frame ++ Im.bytesOf 8 g.dice ++ Im.ships g.ship 8 ++ (Im.bytesOf 1 n ++ Im.shots g.shots) = bk at *
      have B3 := Lib.hid (hK.to hbw)
      have Q3 := Lib.hid ((Kb.refl (B := B) w).wrote hK IV0.out)
      clear hI hK P3 hbk hshl hsl hn32 P0 K0 LL
      go_upto_region 8 with (go_at_call 115; ((with_reducible refine (c5.out).mono ?_); rintro e w6 ⟨rfl, hI6, hB6, hK6, S, hP6⟩; rw [Im.cells_shots] at hP6; have I6 := Lib.hid hI6; have P6 := Lib.hid hP6; have B6 := Lib.hid (B3.out.trans hB6); have Q6 := Lib.hid (Q3.out.trans hK6); clear hI6 hB6 hK6 hP6))
      have e59 : (Im.cells g (.slice (some ⟨S, 0, none⟩) n n) r)[59]? = some (.int .i64 r.version) := (Im.cells_r _ _ _ 0).trans (Ros.cells_0 _)
      have c7 := Lib.hid (layint_w 4 4 rfl r.version B 59 35 _ bk b Bb Bp w6 (by decide) (by have := HR.out.1; omega) hbB I6.out (by omega) P6.out e59 (by decide) (by decide) (by decide))
      rw [HV.out] at c7
      have IV6 := Lib.hid I6.out.isvar
      have K6 := Lib.hid (Wrote.refl hbB w6)
      clear e59 c5
      go_wp2_with (first | (go_at_call 112; ((with_reducible refine (c7.out).mono ?_); rintro e w7 ⟨rfl, hI, hK⟩; have P7 := Lib.hid (P6.out.wrote' hK IV6.out (by decide) (by decide)); have IV7 := Lib.hid hI.isvar; have I7 := Lib.hid hI; have K7 := Lib.hid (K6.out.trans hK); clear hI hK)))
      go_loopw [42] (fun i wx => ∃ k : Nat, k ≤ 8 ∧ i = .int .i64 k ∧ Wr b Bb Bp (bk ++ Im.bytesOf 4 r.version ++ Im.seats r k) wx ∧ Wrote b Bb w6 wx) (fun i _ => 8 - (intOf i).toNat)
      case atStart => exact ⟨0, by omega, rfl, by simpa [Im.seats] using I7.out, K7.out⟩
      case round =>
        obtain ⟨k, hk, rfl, hI, hK⟩ := hrel
        clear I7 P7 IV7 K7 c7
        by_cases hlt : k < 8
        · have hk8 : (k : Int) < 8 := by omega
          have P8 := P6.out.wrote' hK IV6.out (by decide) (by decide)
          have hsl := Im.seats_len r k
          have hs := HR.out.seat k hlt
          have c8 := Lib.hid (layseat_w (r.peer k) (r.gen k) B (60 + k * 2) 35 _ _ b Bb Bp wr ⟨by have := hs.2; omega, by have := hs.2; omega⟩ hs.1 hbB hI (by rw [List.length_append, List.length_append, Im.bytesOf_len]; omega) P8 (Im.cells_peer g _ r k hlt) (Im.cells_gen g _ r k hlt) (by decide) (by decide) (by decide))
          have HSN := Lib.hid (show bk ++ Im.bytesOf 4 r.version ++ Im.seats r k ++ (Im.bytesOf 1 (r.peer k + 1) ++ Im.bytesOf 2 (r.gen k)) = bk ++ Im.bytesOf 4 r.version ++ Im.seats r (k + 1) by simp [Im.seats])
          have HK := Lib.hid hK
          clear hI hK P8 hs hsl
          go_wp2_with (go_at_call 117; ((with_reducible refine (c8.out).mono ?_); rintro e w9 ⟨rfl, hI, hK⟩; have I9 := Lib.hid hI; have K9 := Lib.hid (HK.out.trans hK); clear hI hK))
          go_roundw
          case rel => exact ⟨k + 1, by omega, by go_num, by rw [← HSN.out]; exact I9.out, K9.out⟩
          case measure => simp [intOf]; omega
        · have hk8 : ¬ (k : Int) < 8 := by omega
          obtain rfl : k = 8 := by omega
          have HI := Lib.hid hI
          have HK := Lib.hid hK
          clear hI hK
          go_wp2
          go_end0
          exact ⟨rfl, by rw [HN.out]; exact HI.out, B6.out.trans (HK.out.to (Nat.le_trans hbw B6.out.size)), Q6.out.wrote HK.out IV6.out⟩
end Go.Proofs.YtiahpncglpfjeaaGreat
namespace Go.Proofs.YtiahpncglpfjeaaGreat
open Go.RowKit
set_option linter.unusedVariables false

theorem ifs7 (w : World) (a b c d e f g : Bool) : (if a = true then if b = true then if c = true then if d = true then if e = true then if f = true then if g = true then Result.ok true w else Result.ok false w else Result.ok false w else Result.ok false w else Result.ok false w else Result.ok false w else Result.ok false w else Result.ok false w) = Result.ok (a && (b && (c && (d && (e && (f && g)))))) w := by
  cases a <;> cases b <;> cases c <;> cases d <;> cases e <;> cases f <;> cases g <;> rfl
set_option maxHeartbeats 1000000 in
theorem ship_eq (s t : Gm.Ship) (w : World) : (Op.equalIn 9999 24 (.agg s.cells.toArray) (.agg t.cells.toArray)).run Tryz.prog w = .ok (s.eqB t) w := by
  obtain ⟨a1, a2, a3, a4, a5, a6, a7⟩ := s
  obtain ⟨b1, b2, b3, b4, b5, b6, b7⟩ := t
  have h := ifs7 w (a1 == b1) (a2 == b2) (a3 == b3) (a4 == b4) (a5 == b5) (a6 == b6) (a7 == b7)
  simp only [beq_iff_eq] at h
  simp only [Gm.Ship.cells]
  go_simp
  rfl
theorem ship_info : (Tryz.prog.info? 24).map (·.size) = some 7 := by kernel_rfl
set_option maxHeartbeats 1000000 in
theorem ship_part (f : Nat → Gm.Ship) (i : Nat) (hi : i < 8) (w : World) : (part 24 (Gm.shipCells f).toArray (i * 7)).run Tryz.prog w = .ok (.agg (f i).cells.toArray) w := by
  have h := Gm.shipCells_list f i hi
  cases hq : Tryz.prog.info? 24 with
  | none => have := ship_info; simp [hq] at this
  | some j =>
    have hs : j.size = 7 := by have := ship_info; simpa [hq] using this
    simp [part, isAgg, sizeOf, typeInfo, hq, hs, run_underlying (Tryz.underlying24) w, h]
theorem ships_eq (f g : Nat → Gm.Ship) (w : World) : (Op.equalIn 10000 25 (.agg (Gm.shipCells f).toArray) (.agg (Gm.shipCells g).toArray)).run Tryz.prog w = .ok (Gm.shipsEq f g) w := by
  cases hq : Tryz.prog.info? 24 with
  | none => have := ship_info; simp [hq] at this
  | some j =>
    have hs : Tryz.prog.cellsOf 24 = 7 := by kernel_rfl
    rw [run_equalIn_array w 9999 _ _ Tryz.underlying25 hq, hs]
    exact run_eqItems_all w 9999 _ 7 _ _ (fun i => .agg (f i).cells.toArray) (fun i => .agg (g i).cells.toArray) (fun i => (f i).eqB (g i)) (List.range 8)
      (fun i hi => ⟨ship_part f i (by simpa using hi) w, ship_part g i (by simpa using hi) w, ship_eq _ _ w⟩)
theorem ships_neq (f g : Nat → Gm.Ship) (w : World) : (binOp .neq 25 (.agg (Gm.shipCells f).toArray) (.agg (Gm.shipCells g).toArray)).run Tryz.prog w = .ok (.bool (!Gm.shipsEq f g)) w := by
  simp only [binOp]
  simp [Op.equal, Op.maxDepth, ships_eq]
theorem ships_eql (f g : Nat → Gm.Ship) (w : World) : (binOp .eql 25 (.agg (Gm.shipCells f).toArray) (.agg (Gm.shipCells g).toArray)).run Tryz.prog w = .ok (.bool (Gm.shipsEq f g)) w := by
  simp only [binOp]
  simp [Op.equal, Op.maxDepth, ships_eq]
end Go.Proofs.YtiahpncglpfjeaaGreat
