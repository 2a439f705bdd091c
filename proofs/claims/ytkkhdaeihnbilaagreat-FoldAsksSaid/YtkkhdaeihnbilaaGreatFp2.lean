/-
Several texts in one: Ic Nl Id Fx Gf Dn Gm Gr Gb Gp Ie If Ta Ig Fa.
-/
import Derived.Test.YtkkhdaeihnbilaaGreatFp1
namespace Go.Proofs.YtkkhdaeihnbilaaGreat
open Go.RowKit Go.Shelf
set_option linter.unusedVariables false

theorem setCell_noop {w : World} {P o : Nat} {t : TypeId} {cs : Array Value} {u : Value} (h : Box w P t cs) (ho : cs[o]? = some u) (k : Nat) : (w.setCell ⟨P, o, none⟩ u).heap[k]? = w.heap[k]? := by
  by_cases e : k = P
  · subst e
    rw [(h.put o u).is, h.is]
    congr 2
    obtain ⟨hlt, he⟩ := Array.getElem?_eq_some_iff.1 ho
    apply Array.ext
    · simp
    · intro i h1 h2
      rw [Array.getElem_setIfInBounds]
      split
      · rename_i e; subst e; exact he.symm
      · rfl
  · exact heap_setCell_other w ⟨P, o, none⟩ k u e
section
variable {b Bb Bp : Nat} {bs : List Int} {w0 w : World}
theorem Wrote.noop {P o : Nat} {t : TypeId} {cs : Array Value} {u : Value} (h : Wrote b Bb w0 w) (hB : Box w P t cs) (ho : cs[o]? = some u) : Wrote b Bb w0 (w.setCell ⟨P, o, none⟩ u) := by
  have hz := (Below.refl 0 w).setCell (p := ⟨P, o, none⟩) (Nat.zero_le _) u
  exact ⟨hz.os.trans h.os, hz.tape.trans h.tape, hz.output.trans h.output, Nat.le_trans h.size hz.size, h.low, fun k hk hc => (setCell_noop hB ho k).trans (h.block k hk hc)⟩
/-- A block that is none of the writer's stays. -/
theorem Box.wrote' {g : Nat} {t : TypeId} {cs : Array Value} (h : Box w0 g t cs) (k : Wrote b Bb w0 w) (hv : ∃ A n c, Box w0 Bb 72 #[.slice A n c]) (h1 : t ≠ 72) (h2 : t ≠ 5) : Box w g t cs := by
  obtain ⟨A, n, c, hv⟩ := hv
  exact h.wrote k (Box.apart h hv h1) h2
theorem Wr.isvar (h : Wr b Bb Bp bs w) : ∃ A n c, Box w Bb 72 #[.slice A n c] := by
  obtain ⟨_, A, c, h, _⟩ := h
  exact ⟨A, _, c, h⟩
end

set_option maxRecDepth 100000 in
set_option maxHeartbeats 1000000 in
theorem layint_w (size : Nat) (z : Int) (hz : z = size) (x : Int) (P o : Nat) (t : TypeId) (cs : Array Value) (bs : List Int) (b Bb Bp : Nat) (w : World) (hs : size ≤ 8) (hx : -9223372036854775808 ≤ x ∧ x ≤ 9223372036854775807) (hbB : b ≤ Bb) (h : Wr b Bb Bp bs w) (hl : bs.length + size ≤ 65536) (hP : Box w P t cs) (ho : cs[o]? = some (.int .i64 x)) (h1 : t ≠ 72) (h2 : t ≠ 5) (h3 : t ≠ 115) :
    Calls Tryz.prog 112 #[.func (.func 117) #[] #[.pointer (some ⟨Bp, 0, none⟩)], .int .i64 z, .pointer (some ⟨P, o, none⟩)] w fun e w' => e = .returned (.tuple #[]) ∧ Wr b Bb Bp (bs ++ Im.bytesOf size (IntKind.u64.wrap x)) w' ∧ Wrote b Bb w w' := by
  subst hz
  have hwb : IntKind.i64.wrap (IntKind.u64.wrap x) = x := by rw [IntKind.wrap_i64, IntKind.wrap_u64]; omega
  have hvr : 0 ≤ IntKind.u64.wrap x ∧ IntKind.u64.wrap x ≤ 18446744073709551615 := by rw [IntKind.wrap_u64]; omega
  obtain ⟨v, hv⟩ : ∃ v, v = IntKind.u64.wrap x := ⟨_, rfl⟩
  rw [← hv] at hwb hvr ⊢
  have cw := Lib.hid (write_any size v bs b Bb Bp w hs hvr hbB h hl)
  have HH := Lib.hid h
  have HP := Lib.hid hP
  have hvv : IntKind.u64.wrap x = v := hv.symm
  clear hv
  have k0 := hP.cell o
  rw [ho] at k0
  have HO := Lib.hid ho
  clear h hP ho
  go_enter Tryz.func112, Tryz.ntmps112
  go_wp2_with (go_at_call 117; ((with_reducible refine (cw.out).mono ?_); rintro e w1 ⟨rfl, hI1, hK1⟩; have P1 := Lib.hid (HP.out.wrote' hK1 HH.out.isvar h1 h2); have I1 := Lib.hid hI1; have K1 := Lib.hid hK1; have k1 := P1.out.cell o; rw [HO.out] at k1; have f1 := P1.out.free o; clear hI1 hK1 k0))
  go_end0
  exact ⟨rfl, I1.out.off (p := ⟨P, o, none⟩) P1.out h3 h1 h2 _, K1.out.noop P1.out HO.out⟩

set_option maxRecDepth 100000 in
set_option maxHeartbeats 1000000 in
theorem layu64_w (size : Nat) (z : Int) (hz : z = size) (x : Int) (P o : Nat) (t : TypeId) (cs : Array Value) (bs : List Int) (b Bb Bp : Nat) (w : World) (hs : size ≤ 8) (hx : 0 ≤ x ∧ x ≤ 18446744073709551615) (hbB : b ≤ Bb) (h : Wr b Bb Bp bs w) (hl : bs.length + size ≤ 65536) (hP : Box w P t cs) (ho : cs[o]? = some (.int .u64 x)) (h1 : t ≠ 72) (h2 : t ≠ 5) (h3 : t ≠ 115) :
    Calls Tryz.prog 113 #[.func (.func 117) #[] #[.pointer (some ⟨Bp, 0, none⟩)], .int .i64 z, .pointer (some ⟨P, o, none⟩)] w fun e w' => e = .returned (.tuple #[]) ∧ Wr b Bb Bp (bs ++ Im.bytesOf size (x)) w' ∧ Wrote b Bb w w' := by
  subst hz
  have hvr := hx
  obtain ⟨v, hv⟩ : ∃ v, v = x := ⟨_, rfl⟩
  rw [← hv] at hvr ⊢
  have cw := Lib.hid (write_any size v bs b Bb Bp w hs hvr hbB h hl)
  have HH := Lib.hid h
  have HP := Lib.hid hP
  subst hv
  have k0 := hP.cell o
  rw [ho] at k0
  have HO := Lib.hid ho
  clear h hP ho
  go_enter Tryz.func113, Tryz.ntmps113
  go_wp2_with (go_at_call 117; ((with_reducible refine (cw.out).mono ?_); rintro e w1 ⟨rfl, hI1, hK1⟩; have P1 := Lib.hid (HP.out.wrote' hK1 HH.out.isvar h1 h2); have I1 := Lib.hid hI1; have K1 := Lib.hid hK1; have k1 := P1.out.cell o; rw [HO.out] at k1; have f1 := P1.out.free o; clear hI1 hK1 k0))
  go_end0
  exact ⟨rfl, I1.out.off (p := ⟨P, o, none⟩) P1.out h3 h1 h2 _, K1.out.noop P1.out HO.out⟩

set_option maxRecDepth 100000 in
set_option maxHeartbeats 1000000 in
theorem layi32_w (size : Nat) (z : Int) (hz : z = size) (x : Int) (P o : Nat) (t : TypeId) (cs : Array Value) (bs : List Int) (b Bb Bp : Nat) (w : World) (hs : size ≤ 8) (hx : -2147483648 ≤ x ∧ x ≤ 2147483647) (hbB : b ≤ Bb) (h : Wr b Bb Bp bs w) (hl : bs.length + size ≤ 65536) (hP : Box w P t cs) (ho : cs[o]? = some (.int .i32 x)) (h1 : t ≠ 72) (h2 : t ≠ 5) (h3 : t ≠ 115) :
    Calls Tryz.prog 145 #[.func (.func 117) #[] #[.pointer (some ⟨Bp, 0, none⟩)], .int .i64 z, .pointer (some ⟨P, o, none⟩)] w fun e w' => e = .returned (.tuple #[]) ∧ Wr b Bb Bp (bs ++ Im.bytesOf size (IntKind.u64.wrap x)) w' ∧ Wrote b Bb w w' := by
  subst hz
  have hwb : IntKind.i32.wrap (IntKind.u64.wrap x) = x := by rw [IntKind.wrap_i32, IntKind.wrap_u64]; omega
  have hvr : 0 ≤ IntKind.u64.wrap x ∧ IntKind.u64.wrap x ≤ 18446744073709551615 := by rw [IntKind.wrap_u64]; omega
  obtain ⟨v, hv⟩ : ∃ v, v = IntKind.u64.wrap x := ⟨_, rfl⟩
  rw [← hv] at hwb hvr ⊢
  have cw := Lib.hid (write_any size v bs b Bb Bp w hs hvr hbB h hl)
  have HH := Lib.hid h
  have HP := Lib.hid hP
  have hvv : IntKind.u64.wrap x = v := hv.symm
  clear hv
  have k0 := hP.cell o
  rw [ho] at k0
  have HO := Lib.hid ho
  clear h hP ho
  go_enter Tryz.func145, Tryz.ntmps145
  go_wp2_with (go_at_call 117; ((with_reducible refine (cw.out).mono ?_); rintro e w1 ⟨rfl, hI1, hK1⟩; have P1 := Lib.hid (HP.out.wrote' hK1 HH.out.isvar h1 h2); have I1 := Lib.hid hI1; have K1 := Lib.hid hK1; have k1 := P1.out.cell o; rw [HO.out] at k1; have f1 := P1.out.free o; clear hI1 hK1 k0))
  go_end0
  exact ⟨rfl, I1.out.off (p := ⟨P, o, none⟩) P1.out h3 h1 h2 _, K1.out.noop P1.out HO.out⟩
end Go.Proofs.YtkkhdaeihnbilaaGreat
namespace Go.Proofs.YtkkhdaeihnbilaaGreat
open Go.RowKit Go.Shelf
set_option linter.unusedVariables false
set_option linter.unusedSimpArgs false

theorem need_yes (s : ByteArray) (w : World) : Calls Tryz.prog 72 #[.bool true, .string s] w fun e w' => e = .returned (.tuple #[]) ∧ w = w' := by
  go_enter Tryz.func72, Tryz.ntmps72
  go_wp2
  go_end0
  exact ⟨rfl, rfl⟩

theorem need_no (s : ByteArray) (w : World) : Calls Tryz.prog 72 #[.bool false, .string s] w fun e w' => e = .panicked [{ v := .iface 9 (.string s), recovered := false }] ∧ w = w' := by
  go_enter Tryz.func72, Tryz.ntmps72
  go_wp2
  first | exact ⟨rfl, rfl, rfl⟩ | exact ⟨rfl, rfl⟩

theorem Wr.nil {b Bb Bp : Nat} {W : World} (h1 : Box W Bp 115 #[.pointer (some ⟨Bb, 0, none⟩)]) (h2 : Box W Bb 72 #[.slice none 0 0]) : Wr b Bb Bp [] W :=
  ⟨h1, none, 0, h2, World.ownsRow_nil _ _ _ _⟩

theorem writer_any (p : Addr) (w : World) : Calls Tryz.prog 75 #[.pointer (some p)] w fun e w' => e = .returned (.func (.func 117) #[] #[.pointer (some ⟨w.heap.size, 0, none⟩)]) ∧ w' = w.alloc (.cells #[.pointer (some p)] 115) := by
  have hmf : ∀ (fn : Fn) (first cap : Array Value) (w : World), (Instr.makeFunc fn first cap).run Tryz.prog w = .ok (.func fn first cap) w := fun _ _ _ _ => rfl
  go_enter Tryz.func75, Tryz.ntmps75
  go_wp2
  go_ret
  exact ⟨rfl, rfl⟩

/-- All blocks but B, b's variable and rows of bytes stay. -/
def Kb (B : Nat) (w w' : World) : Prop := ∀ g t cs, Box w g t cs → g ≠ B → t ≠ 72 → t ≠ 5 → Box w' g t cs
section
variable {B b Bb Bp : Nat} {bs : List Int} {w w' w'' : World}
theorem Kb.refl (w : World) : Kb B w w := fun _ _ _ h _ _ _ => h
theorem Kb.trans (h : Kb B w w') (k : Kb B w' w'') : Kb B w w'' := fun g t cs hg hne h1 h2 => k g t cs (h g t cs hg hne h1 h2) hne h1 h2
theorem Kb.call (h : Kb B w w') (hb : Below w'.heap.size w' w'') : Kb B w w'' := fun g t cs hg hne h1 h2 => (h g t cs hg hne h1 h2).below hb (h g t cs hg hne h1 h2).lt
theorem Kb.wrote (h : Kb B w w') (hW : Wrote b Bb w' w'') (hv : ∃ A n c, Box w' Bb 72 #[.slice A n c]) : Kb B w w'' := fun g t cs hg hne h1 h2 => (h g t cs hg hne h1 h2).wrote' hW hv h1 h2
theorem Kb.put (h : Kb B w w') (i : Nat) (u : Value) : Kb B w (w'.setCell ⟨B, i, none⟩ u) := fun g t cs hg hne h1 h2 => (h g t cs hg hne h1 h2).far (p := ⟨B, i, none⟩) hne u
theorem Kb.row (h : Kb B w w') {S : Nat} (hS : w.heap.size ≤ S) (cs' : Array Value) : Kb B w (w'.setRow S cs') := fun g t cs hg hne h1 h2 => (h g t cs hg hne h1 h2).row_far (by have := hg.lt; omega) cs'
end
end Go.Proofs.YtkkhdaeihnbilaaGreat
namespace Go.Proofs.YtkkhdaeihnbilaaGreat
open Go.RowKit Go.Shelf
set_option linter.unusedVariables false

def Im.flight (x : Nat → Int) : Nat → List Int
  | 0 => []
  | k + 1 => Im.flight x k ++ Im.bytesOf 4 (IntKind.u64.wrap (x k))
theorem Im.flight_len (x : Nat → Int) : ∀ k, (Im.flight x k).length = 4 * k
  | 0 => rfl
  | k + 1 => by show (Im.flight x k ++ _).length = _; rw [List.length_append, Im.flight_len x k, Im.bytesOf_len]; omega

set_option maxRecDepth 100000 in
set_option maxHeartbeats 2000000 in
theorem layflight_w (x : Nat → Int) (p : Nat → Nat) (P Bq : Nat) (t : TypeId) (cs : Array Value) (bs : List Int) (b Bb Bp : Nat) (w : World) (hx : ∀ k, k < 4 → -2147483648 ≤ x k ∧ x k ≤ 2147483647) (hbB : b ≤ Bb) (h : Wr b Bb Bp bs w) (hl : bs.length + 16 ≤ 65536) (hP : Box w P t cs) (ho : ∀ k, k < 4 → cs[p k]? = some (.int .i32 (x k))) (h1 : t ≠ 72) (h2 : t ≠ 5) (h3 : t ≠ 115)
    (hq : Box w Bq 166 #[.pointer (some ⟨P, p 0, none⟩), .pointer (some ⟨P, p 1, none⟩), .pointer (some ⟨P, p 2, none⟩), .pointer (some ⟨P, p 3, none⟩)]) (c : Nat) :
    Calls Tryz.prog 136 #[.func (.func 117) #[] #[.pointer (some ⟨Bp, 0, none⟩)], .slice (some ⟨Bq, 0, none⟩) 4 c] w fun e w' => e = .returned (.tuple #[]) ∧ Wr b Bb Bp (bs ++ Im.flight x 4) w' ∧ Wrote b Bb w w' := by
  have HH := Lib.hid h
  have HP := Lib.hid hP
  have HQ := Lib.hid hq
  clear h hP hq
  go_enter Tryz.func136, Tryz.ntmps136
  go_wp2
  go_loopw [8] (fun i wr => ∃ k : Nat, k ≤ 4 ∧ i = .int .i64 k ∧ Wr b Bb Bp (bs ++ Im.flight x k) wr ∧ Wrote b Bb w wr) (fun i _ => 4 - (intOf i).toNat)
  case atStart => exact ⟨0, by omega, rfl, by simpa [Im.flight] using HH.out, Wrote.refl hbB w⟩
  case round =>
    obtain ⟨k, hk, rfl, hI, hK⟩ := hrel
    by_cases hlt : k < 4
    · have hk8 : (k : Int) < 4 := by omega
      have P1 := HP.out.wrote' hK HH.out.isvar h1 h2
      have Q1 := HQ.out.wrote' hK HH.out.isvar (by decide) (by decide)
      have qc := Q1.cell k
      have hqk : (#[.pointer (some ⟨P, p 0, none⟩), .pointer (some ⟨P, p 1, none⟩), .pointer (some ⟨P, p 2, none⟩), .pointer (some ⟨P, p 3, none⟩)] : Array Value)[k]? = some (.pointer (some ⟨P, p k, none⟩)) := by
        match k, hlt with
        | 0, _ | 1, _ | 2, _ | 3, _ => rfl
      rw [hqk] at qc
      have cl := Lib.hid (layi32_w 4 4 rfl (x k) P (p k) t cs (bs ++ Im.flight x k) b Bb Bp wr (by decide) (hx k hlt) hbB hI (by rw [List.length_append, Im.flight_len]; omega) P1 (ho k hlt) h1 h2 h3)
      rw [List.append_assoc, show Im.flight x k ++ Im.bytesOf 4 (IntKind.u64.wrap (x k)) = Im.flight x (k + 1) from rfl] at cl
      have HK := Lib.hid hK
      clear hI hK P1 Q1 hqk
      go_wp2_with (go_at_call 145; ((with_reducible refine (cl.out).mono ?_); rintro e w1 ⟨rfl, hI1, hK1⟩; have I1 := Lib.hid hI1; have K1 := Lib.hid (HK.out.trans hK1); clear hI1 hK1 qc))
      go_roundw
      case rel => exact ⟨k + 1, by omega, by go_num, I1.out, K1.out⟩
      case measure => simp [intOf]; omega
    · have hk8 : ¬ (k : Int) < 4 := by omega
      obtain rfl : k = 4 := by omega
      have HI := Lib.hid hI
      have HK := Lib.hid hK
      clear hI hK
      go_wp2
      go_end0
      exact ⟨rfl, HI.out, HK.out⟩

set_option maxRecDepth 100000 in
set_option maxHeartbeats 2000000 in
theorem layseat_w (pe g : Int) (P o : Nat) (t : TypeId) (cs : Array Value) (bs : List Int) (b Bb Bp : Nat) (w : World) (hpe : -1 ≤ pe ∧ pe ≤ 60000) (hg : 0 ≤ g ∧ g ≤ 60000) (hbB : b ≤ Bb) (h : Wr b Bb Bp bs w) (hl : bs.length + 3 ≤ 65536) (hP : Box w P t cs) (ho : cs[o]? = some (.int .i64 pe)) (ho1 : cs[o + 1]? = some (.int .i64 g)) (h1 : t ≠ 72) (h2 : t ≠ 5) (h3 : t ≠ 115) :
    Calls Tryz.prog 116 #[.func (.func 117) #[] #[.pointer (some ⟨Bp, 0, none⟩)], .pointer (some ⟨P, o, none⟩)] w fun e w' => e = .returned (.tuple #[]) ∧ Wr b Bb Bp (bs ++ (Im.bytesOf 1 (pe + 1) ++ Im.bytesOf 2 g)) w' ∧ Wrote b Bb w w' := by
  have hw1 : IntKind.i64.wrap (pe + 1) = pe + 1 := by rw [IntKind.wrap_i64]; omega
  have hw2 : IntKind.u64.wrap (pe + 1) = pe + 1 := by rw [IntKind.wrap_u64]; omega
  have hw3 : IntKind.u64.wrap g = g := by rw [IntKind.wrap_u64]; omega
  have hw4 : IntKind.i64.wrap (pe + 1 - 1) = pe := by rw [IntKind.wrap_i64]; omega
  have k0 := hP.cell o
  rw [ho] at k0
  have HP := Lib.hid hP
  have HL := Lib.hid (Box.made w 3 #[.int .i64 (pe + 1)])
  have HPA := Lib.hid (hP.alloc (.cells #[.int .i64 (pe + 1)] 3))
  have HA := Lib.hid (h.alloc (.cells #[.int .i64 (pe + 1)] 3))
  have WA := Lib.hid ((Wrote.refl hbB w).alloc (.cells #[.int .i64 (pe + 1)] 3))
  have c1 := Lib.hid (layint_w 1 1 rfl (pe + 1) w.heap.size 0 3 #[.int .i64 (pe + 1)] bs b Bb Bp _ (by decide) (by omega) hbB HA.out (by omega) HL.out rfl (by decide) (by decide) (by decide))
  have c2 := fun X (hX : Wr b Bb Bp (bs ++ Im.bytesOf 1 (pe + 1)) X) (hB : Box X P t cs) => Lib.hid (layint_w 2 2 rfl g P (o + 1) t cs (bs ++ Im.bytesOf 1 (pe + 1)) b Bb Bp X (by decide) (by omega) hbB hX (by rw [List.length_append, Im.bytesOf_len]; omega) hB ho1 h1 h2 h3)
  rw [hw2] at c1
  rw [hw3] at c2
  have hvar := Lib.hid HA.out.isvar
  have HO := Lib.hid ho
  have ltP := hP.lt
  clear h hP ho ho1 hw2 hw3
  go_enter Tryz.func116, Tryz.ntmps116
  go_upto_region 3 with (go_at_call 112; ((with_reducible refine (c1.out).mono ?_); rintro e w1 ⟨rfl, hI1, hK1⟩; have L1 := HL.out.wrote' hK1 hvar.out (by decide) (by decide); have l1 := L1.cell 0; have P1 := Lib.hid (HPA.out.wrote' hK1 hvar.out h1 h2); have p1 := P1.out.cell o; rw [HO.out] at p1; have f1 := P1.out.free o; have I1 := Lib.hid hI1; have K1 := Lib.hid (WA.out.trans hK1); clear hI1 hK1 L1 k0))
  obtain ⟨U, hU⟩ : ∃ U, U = w1.setCell ⟨P, o, none⟩ (.int .i64 pe) := ⟨_, rfl⟩
  have IU : Wr b Bb Bp (bs ++ Im.bytesOf 1 (pe + 1)) U := by rw [hU]; exact I1.out.off (p := ⟨P, o, none⟩) P1.out h3 h1 h2 _
  have KU : Wrote b Bb w U := by rw [hU]; exact K1.out.noop P1.out HO.out
  have PU : Box U P t cs := ⟨by rw [hU, setCell_noop P1.out HO.out]; exact P1.out.is⟩
  rw [← hU]
  have c2 := c2 U IU PU
  have KU := Lib.hid KU
  clear hU IU PU I1 K1 P1 p1 f1 l1
  go_wp2_with (go_at_call 112; ((with_reducible refine (c2.out).mono ?_); rintro e w2 ⟨rfl, hI2, hK2⟩; have I2 := Lib.hid hI2; have K2 := Lib.hid (KU.out.trans hK2); clear hI2 hK2))
  go_end0
  exact ⟨rfl, by rw [← List.append_assoc]; exact I2.out, K2.out⟩
end Go.Proofs.YtkkhdaeihnbilaaGreat
namespace Fx

def cut (v : Int) : Int := min (max v (-2147483648)) 2147483647
def clamp (a lo hi : Int) : Int := min (max a lo) hi
theorem cut_bd (v : Int) : -2147483648 ≤ cut v ∧ cut v ≤ 2147483647 := by unfold cut; omega
/-- The greatest whole number whose square is not above n. -/
noncomputable def sq (n : Nat) : Nat := Classical.epsilon fun r => r * r ≤ n ∧ n < (r + 1) * (r + 1)

theorem sq_one {n r s : Nat} (h : r * r ≤ n ∧ n < (r + 1) * (r + 1)) (h' : s * s ≤ n ∧ n < (s + 1) * (s + 1)) : r = s := by
  rcases Nat.lt_trichotomy r s with c | c | c
  · have := Nat.mul_le_mul (show r + 1 ≤ s from c) (show r + 1 ≤ s from c)
    omega
  · exact c
  · have := Nat.mul_le_mul (show s + 1 ≤ r from c) (show s + 1 ≤ r from c)
    omega
theorem sq_is {n r : Nat} (h : r * r ≤ n ∧ n < (r + 1) * (r + 1)) : sq n = r := sq_one (Classical.epsilon_spec (p := fun r => r * r ≤ n ∧ n < (r + 1) * (r + 1)) ⟨r, h⟩) h
noncomputable def root (a : Int) : Int := if a ≤ 0 then 0 else sq (a.toNat * 65536)
/-- A root that is right in every digit from place j on, and has none below. -/
structure Half (n R j : Nat) : Prop where
  whole : R % 2 ^ j = 0
  lo : R * R ≤ n
  hi : n < (R + 2 ^ j) * (R + 2 ^ j)

theorem Half.start {n j : Nat} (h : n < 2 ^ j * 2 ^ j) : Half n 0 j := ⟨Nat.zero_mod _, by omega, by rwa [Nat.zero_add]⟩
theorem Half.take {n R j : Nat} (h : Half n R (j + 1)) (c : (R + 2 ^ j) * (R + 2 ^ j) ≤ n) : Half n (R + 2 ^ j) j := by
  have e : 2 ^ (j + 1) = 2 ^ j + 2 ^ j := by rw [Nat.pow_succ]; omega
  refine ⟨?_, c, ?_⟩
  · have := Nat.mod_mod_of_dvd R (show 2 ^ j ∣ 2 ^ (j + 1) from ⟨2, by rw [Nat.pow_succ]⟩)
    rw [h.whole, Nat.zero_mod] at this
    rw [Nat.add_mod_right]; omega
  · have := h.hi; rw [e, ← Nat.add_assoc] at this; exact this
theorem Half.done {n R : Nat} (h : Half n R 0) : sq n = R := sq_is ⟨h.lo, h.hi⟩
theorem Half.below {n R j : Nat} (h : Half n R j) (m : Nat) (hm : n < m * m) : R < m := by
  by_cases c : R < m
  · exact c
  · have := Nat.mul_le_mul (show m ≤ R by omega) (show m ≤ R by omega)
    have := h.lo
    omega
theorem Half.or {n R j : Nat} (h : Half n R (j + 1)) : R ||| 2 ^ j = R + 2 ^ j := by
  have hd := Nat.div_add_mod R (2 ^ (j + 1))
  rw [h.whole, Nat.add_zero] at hd
  have hlt : 2 ^ j < 2 ^ (j + 1) := Nat.pow_lt_pow_right (by omega) (by omega)
  have := Nat.two_pow_add_eq_or_of_lt hlt (R / 2 ^ (j + 1))
  rw [hd] at this
  exact this.symm
end Fx
namespace Gf

def wrap (a : Int) : Int := a % 16777216
def move (a v : Int) : Int := (a + v) % 16777216
def gap (a b : Int) : Int := (b - a + 8388608) % 16777216 - 8388608
def near (g : Int) : Bool := decide (-786432 < g) && decide (g < 786432)
def hits (ax ay bx by' : Int) : Bool := near (gap ax bx) && near (gap ay by')
def push (v s : Int) : Int := Fx.clamp (Fx.cut (v - v.tdiv 16 + 256 * s)) (-524288) 524288
def tame (a : Int) : Int := if a = -128 then -127 else a
def way (a : Int) : Int := if 0 < a then 393216 else if a < 0 then -393216 else 0
def aimx (x y : Int) : Int := if x = 0 ∧ y = 0 then 393216 else way x
def aimy (y : Int) : Int := way y

theorem move_bd (a v : Int) : 0 ≤ move a v ∧ move a v < 16777216 := by unfold move; omega
theorem gap_bd (a b : Int) : -8388608 ≤ gap a b ∧ gap a b < 8388608 := by unfold gap; omega
theorem push_bd (v s : Int) : -524288 ≤ push v s ∧ push v s ≤ 524288 := by unfold push Fx.clamp; omega
theorem tame_bd {a : Int} (h : -128 ≤ a ∧ a ≤ 127) : -127 ≤ tame a ∧ tame a ≤ 127 := by unfold tame; split <;> omega
theorem tame_same {a : Int} (h : a ≠ -128) : tame a = a := by unfold tame; rw [if_neg h]
theorem way_bd (a : Int) : -393216 ≤ way a ∧ way a ≤ 393216 := by unfold way; split <;> (try split) <;> omega
theorem aimx_bd (x y : Int) : -393216 ≤ aimx x y ∧ aimx x y ≤ 393216 := by
  unfold aimx; split
  · omega
  · exact way_bd _
theorem slow_in {v : Int} (w : -2147483648 ≤ v ∧ v ≤ 2147483647) : -2147483648 ≤ v - v.tdiv 16 ∧ v - v.tdiv 16 ≤ 2147483647 ∧ -134217728 ≤ v.tdiv 16 ∧ v.tdiv 16 ≤ 134217727 := by
  by_cases h : 0 ≤ v
  · have := Int.tdiv_eq_ediv_of_nonneg h (b := 16); omega
  · have e : v.tdiv 16 = -((-v) / 16) := by
      have : v = -(-v) := by omega
      rw [this, Int.neg_tdiv, Int.tdiv_eq_ediv_of_nonneg (by omega)]; simp
    omega
/-- The remainder that Go tells, brought up. -/
theorem around_eq (v : Int) : (if v.tmod 16777216 < 0 then v.tmod 16777216 + 16777216 else v.tmod 16777216) = v % 16777216 := by
  have h1 := Int.tmod_eq_emod (a := v) (b := 16777216)
  split <;> (split at h1 <;> omega)
theorem tmod_bd (v : Int) : -16777216 < v.tmod 16777216 ∧ v.tmod 16777216 < 16777216 := ⟨Int.lt_tmod_of_pos v (by omega), Int.tmod_lt_of_pos v (by omega)⟩
end Gf
namespace Dn
/-- The next throw. -/
def next (d : Int) : Int := (d * 6364136223846793005 + 1442695040888963407) % 18446744073709551616
/-- One byte mixed in. -/
def mix (h c : Int) : Int := ((h.toNat ^^^ c.toNat : Nat) : Int) * 1099511628211 % 18446744073709551616
/-- The upper 32 bits, times n, the bits above 32. -/
def share (e n : Int) : Int := e / 4294967296 * n / 4294967296
/-- What a text begins with. -/
def seed (l : List UInt8) : Int := l.foldl (fun h c => mix h (c.toNat : Int)) 14695981039346656037

theorem next_bd (d : Int) : 0 ≤ next d ∧ next d ≤ 18446744073709551615 := by unfold next; omega
theorem mix_bd (h c : Int) : 0 ≤ mix h c ∧ mix h c ≤ 18446744073709551615 := by unfold mix; omega
theorem seed_nil : seed [] = 14695981039346656037 := rfl
theorem seed_snoc (l : List UInt8) (c : UInt8) : seed (l ++ [c]) = mix (seed l) (c.toNat : Int) := by unfold seed; rw [List.foldl_append]; rfl
theorem seed_bd (l : List UInt8) : 0 ≤ seed l ∧ seed l ≤ 18446744073709551615 := by
  rcases List.eq_nil_or_concat l with rfl | ⟨m, c, rfl⟩
  · rw [seed_nil]; omega
  · rw [List.concat_eq_append, seed_snoc]; exact mix_bd _ _
theorem share_bd {e n : Int} (he : 0 ≤ e ∧ e ≤ 18446744073709551615) (hn : 1 ≤ n ∧ n ≤ 2147483647) :
    0 ≤ e / 4294967296 * n ∧ e / 4294967296 * n ≤ 9223372030412324865 ∧ 0 ≤ share e n ∧ share e n < n := by
  unfold share
  have hq : 0 ≤ e / 4294967296 ∧ e / 4294967296 ≤ 4294967295 := by omega
  generalize e / 4294967296 = q at *
  have h1 : 0 ≤ q * n := Int.mul_nonneg hq.1 (by omega)
  have h2 : q * n ≤ 4294967295 * n := Int.mul_le_mul_of_nonneg_right hq.2 (by omega)
  generalize q * n = p at *
  omega
end Dn
namespace Gm
open Go

structure Ship where
  on : Bool
  x : Int
  y : Int
  vx : Int
  vy : Int
  cool : Int
  score : Int
structure Shot where
  owner : Int
  x : Int
  y : Int
  vx : Int
  vy : Int
  left : Int
structure In where
  x : Int
  y : Int
  b : Int
/-- A game: of the ships those of slots 0 to 7 count. -/
structure G where
  frame : Int
  dice : Int
  ship : Nat → Ship
  shots : List Shot

def Ship.none : Ship := ⟨false, 0, 0, 0, 0, 0, 0⟩
def upd (f : Nat → Ship) (i : Nat) (s : Ship) : Nat → Ship := fun j => if j = i then s else f j

def Ship.cells (s : Ship) : List Value := [.bool s.on, .int .i32 s.x, .int .i32 s.y, .int .i32 s.vx, .int .i32 s.vy, .int .i64 s.cool, .int .i64 s.score]
def Shot.cells (s : Shot) : List Value := [.int .i64 s.owner, .int .i32 s.x, .int .i32 s.y, .int .i32 s.vx, .int .i32 s.vy, .int .i64 s.left]
def In.cells (p : In) : List Value := [.int .i8 p.x, .int .i8 p.y, .int .u8 p.b]
def shipCells (f : Nat → Ship) : List Value := (f 0).cells ++ ((f 1).cells ++ ((f 2).cells ++ ((f 3).cells ++ ((f 4).cells ++ ((f 5).cells ++ ((f 6).cells ++ (f 7).cells))))))
/-- The 59 cells of a game whose shots are the slice s. -/
def cells (g : G) (s : Value) : Array Value := ([Value.int .i64 g.frame, Value.int .u64 g.dice] ++ shipCells g.ship ++ [s]).toArray

theorem shipCells_len (f : Nat → Ship) : (shipCells f).length = 56 := rfl
theorem cells_size (g : G) (s : Value) : (cells g s).size = 59 := rfl
theorem cells_0 (g : G) (s : Value) : (cells g s)[0]? = some (.int .i64 g.frame) := rfl
theorem cells_1 (g : G) (s : Value) : (cells g s)[1]? = some (.int .u64 g.dice) := rfl
theorem cells_58 (g : G) (s : Value) : (cells g s)[58]? = some s := rfl
theorem cells_ship (g : G) (s : Value) (i k : Nat) (hi : i < 8) (hk : k < 7) : (cells g s)[2 + i * 7 + k]? = (g.ship i).cells[k]? := by
  match i, hi with
  | 0, _ => match k, hk with | 0, _ | 1, _ | 2, _ | 3, _ | 4, _ | 5, _ | 6, _ => rfl
  | 1, _ => match k, hk with | 0, _ | 1, _ | 2, _ | 3, _ | 4, _ | 5, _ | 6, _ => rfl
  | 2, _ => match k, hk with | 0, _ | 1, _ | 2, _ | 3, _ | 4, _ | 5, _ | 6, _ => rfl
  | 3, _ => match k, hk with | 0, _ | 1, _ | 2, _ | 3, _ | 4, _ | 5, _ | 6, _ => rfl
  | 4, _ => match k, hk with | 0, _ | 1, _ | 2, _ | 3, _ | 4, _ | 5, _ | 6, _ => rfl
  | 5, _ => match k, hk with | 0, _ | 1, _ | 2, _ | 3, _ | 4, _ | 5, _ | 6, _ => rfl
  | 6, _ => match k, hk with | 0, _ | 1, _ | 2, _ | 3, _ | 4, _ | 5, _ | 6, _ => rfl
  | 7, _ => match k, hk with | 0, _ | 1, _ | 2, _ | 3, _ | 4, _ | 5, _ | 6, _ => rfl

def inF (a : Int) : Prop := 0 ≤ a ∧ a < 16777216
def slow (a m : Int) : Prop := -m ≤ a ∧ a ≤ m
def okShip (s : Ship) : Prop := (s.on = true ∨ s = Ship.none) ∧ inF s.x ∧ inF s.y ∧ slow s.vx 524288 ∧ slow s.vy 524288 ∧ 0 ≤ s.cool ∧ s.cool ≤ 10 ∧ 0 ≤ s.score ∧ s.score ≤ 1073741824
def okShot (s : Shot) : Prop := 0 ≤ s.owner ∧ s.owner < 8 ∧ inF s.x ∧ inF s.y ∧ slow s.vx 393216 ∧ slow s.vy 393216 ∧ 1 ≤ s.left ∧ s.left ≤ 24
/-- Which games may be. -/
def ok (g : G) : Prop := 0 ≤ g.frame ∧ g.frame ≤ 1048576 ∧ g.shots.length ≤ 32 ∧ (∀ i, i < 8 → okShip (g.ship i)) ∧ (∀ i (h : i < g.shots.length), okShot g.shots[i])

/-- Numbers of their types. -/
def i32 (a : Int) : Prop := -2147483648 ≤ a ∧ a ≤ 2147483647
def i64 (a : Int) : Prop := -9223372036854775808 ≤ a ∧ a ≤ 9223372036854775807
def tyShip (s : Ship) : Prop := i32 s.x ∧ i32 s.y ∧ i32 s.vx ∧ i32 s.vy ∧ i64 s.cool ∧ i64 s.score
def tyShot (s : Shot) : Prop := i64 s.owner ∧ i32 s.x ∧ i32 s.y ∧ i32 s.vx ∧ i32 s.vy ∧ i64 s.left
def ty (g : G) : Prop := i64 g.frame ∧ (0 ≤ g.dice ∧ g.dice ≤ 18446744073709551615) ∧ (∀ i, i < 8 → tyShip (g.ship i)) ∧ (∀ i (h : i < g.shots.length), tyShot g.shots[i])
theorem okShip.ty {s : Ship} (h : okShip s) : tyShip s := by
  obtain ⟨_, h1, h2, h3, h4, h5⟩ := h; unfold inF slow at *; unfold tyShip i32 i64; omega
theorem okShot.ty {s : Shot} (h : okShot s) : tyShot s := by
  obtain ⟨h0, h0', h1, h2, h3, h4, h5⟩ := h; unfold inF slow at *; unfold tyShot i32 i64; omega

def shotCells (l : List Shot) : List Value := l.flatMap Shot.cells
theorem shotCells_len (l : List Shot) : (shotCells l).length = l.length * 6 := by
  induction l with
  | nil => rfl
  | cons s l ih => unfold shotCells at *; rw [List.flatMap_cons, List.length_append, ih, List.length_cons]; simp [Shot.cells]; omega
theorem shotCells_at (l : List Shot) (k j : Nat) (hk : k < l.length) (hj : j < 6) : (shotCells l)[k * 6 + j]? = l[k].cells[j]? := by
  induction l generalizing k with
  | nil => simp at hk
  | cons s l ih =>
    unfold shotCells at *
    rw [List.flatMap_cons]
    match k with
    | 0 => rw [List.getElem?_append_left (by simp [Shot.cells]; omega)]; simp
    | k + 1 =>
      rw [List.getElem?_append_right (by simp [Shot.cells]; omega)]
      have := ih k (by simpa using hk)
      rw [show (k + 1) * 6 + j - s.cells.length = k * 6 + j from by simp [Shot.cells]; omega, this]
      simp
theorem shotCells_append (l m : List Shot) : shotCells (l ++ m) = shotCells l ++ shotCells m := by unfold shotCells; rw [List.flatMap_append]

def new (d : Int) : G := ⟨0, d, fun _ => Ship.none, []⟩
def placeX (d : Int) : Int := Dn.share (Dn.next d) 16777216
def placeY (d : Int) : Int := Dn.share (Dn.next (Dn.next d)) 16777216
def placeD (d : Int) : Int := Dn.next (Dn.next d)
def spawn (g : G) (i : Nat) : G := { g with dice := placeD g.dice, ship := upd g.ship i ⟨true, placeX g.dice, placeY g.dice, 0, 0, 0, 0⟩ }
def remove (g : G) (i : Nat) : G := { g with ship := upd g.ship i Ship.none, shots := g.shots.filter fun s => decide (s.owner ≠ i) }

def hits1 (f : Nat → Ship) (s : Shot) (i : Nat) : Bool := (f i).on && (decide ((i : Int) ≠ s.owner) && Gf.hits s.x s.y (f i).x (f i).y)
def hitFrom (f : Nat → Ship) (s : Shot) : Nat → Nat → Int
  | 0, _ => -1
  | n + 1, i => if hits1 f s i then (i : Int) else hitFrom f s n (i + 1)
def hit (f : Nat → Ship) (s : Shot) : Int := hitFrom f s 8 0
theorem hitFrom_no {f : Nat → Ship} {s : Shot} {n i : Nat} (h : hits1 f s i = false) : hitFrom f s (n + 1) i = hitFrom f s n (i + 1) := by
  show (if hits1 f s i then _ else _) = _; rw [h]; rfl
theorem hitFrom_yes {f : Nat → Ship} {s : Shot} {n i : Nat} (h : hits1 f s i = true) : hitFrom f s (n + 1) i = i := by
  show (if hits1 f s i then _ else _) = _; rw [h]; rfl
theorem hitFrom_bd (f : Nat → Ship) (s : Shot) : ∀ n i, hitFrom f s n i = -1 ∨ ∃ k, hitFrom f s n i = (k : Nat) ∧ i ≤ k ∧ k < i + n ∧ hits1 f s k = true
  | 0, i => .inl rfl
  | n + 1, i => by
    cases h : hits1 f s i
    · rw [hitFrom_no h]
      rcases hitFrom_bd f s n (i + 1) with h' | ⟨k, h1, h2, h3, h4⟩
      · exact .inl h'
      · exact .inr ⟨k, h1, by omega, by omega, h4⟩
    · exact .inr ⟨i, hitFrom_yes h, by omega, by omega, h⟩
theorem hit_bd (f : Nat → Ship) (s : Shot) : hit f s = -1 ∨ ∃ k, hit f s = (k : Nat) ∧ k < 8 ∧ hits1 f s k = true := by
  rcases hitFrom_bd f s 8 0 with h | ⟨k, h1, _, h3, h4⟩
  · exact .inl h
  · exact .inr ⟨k, h1, by omega, h4⟩

def nvx (p : In) (s : Ship) : Int := Gf.push s.vx (Gf.tame p.x)
def nvy (p : In) (s : Ship) : Int := Gf.push s.vy (Gf.tame p.y)
def nx (p : In) (s : Ship) : Int := Gf.move s.x (nvx p s)
def ny (p : In) (s : Ship) : Int := Gf.move s.y (nvy p s)
/-- Does it shoot, with so many shots there? -/
def shoots (p : In) (n : Nat) (s : Ship) : Bool := decide (s.cool ≤ 0) && (decide (p.b % 2 = 1) && decide (n < 32))
def moved (p : In) (n : Nat) (s : Ship) : Ship :=
  if s.on = true then ⟨true, nx p s, ny p s, nvx p s, nvy p s, if 0 < s.cool then s.cool - 1 else if shoots p n s = true then 10 else s.cool, s.score⟩ else s
def made (p : In) (n : Nat) (i : Nat) (s : Ship) : List Shot :=
  if s.on = true ∧ shoots p n s = true then [⟨i, nx p s, ny p s, Gf.aimx (Gf.tame p.x) (Gf.tame p.y), Gf.aimy (Gf.tame p.y), 24⟩] else []
/-- The ships and the shots, once k ships have gone. -/
def ph1 (ps : Nat → In) (g : G) : Nat → (Nat → Ship) × List Shot
  | 0 => (g.ship, g.shots)
  | k + 1 => (upd (ph1 ps g k).1 k (moved (ps k) (ph1 ps g k).2.length ((ph1 ps g k).1 k)), (ph1 ps g k).2 ++ made (ps k) (ph1 ps g k).2.length k ((ph1 ps g k).1 k))

structure St where
  dice : Int
  ship : Nat → Ship
  left : List Shot
def fly (s : Shot) : Shot := ⟨s.owner, Gf.move s.x s.vx, Gf.move s.y s.vy, s.vx, s.vy, s.left - 1⟩
def anew (d : Int) (f : Nat → Ship) (k : Nat) : Nat → Ship := upd f k ⟨true, placeX d, placeY d, 0, 0, 0, (f k).score⟩
def more (f : Nat → Ship) (o : Nat) : Nat → Ship := if (f o).on = true then upd f o { f o with score := min ((f o).score + 1) 1073741824 } else f
def shot1 (st : St) (s0 : Shot) : St :=
  if (fly s0).left = 0 then st
  else if hit st.ship (fly s0) < 0 then { st with left := st.left ++ [fly s0] }
  else ⟨placeD st.dice, more (anew st.dice st.ship (hit st.ship (fly s0)).toNat) s0.owner.toNat, st.left⟩
def ph2 (st : St) (l : List Shot) : St := l.foldl shot1 st
def step (ps : Nat → In) (g : G) : G :=
  let st := ph2 ⟨g.dice, (ph1 ps g 8).1, []⟩ (ph1 ps g 8).2
  ⟨g.frame + 1, st.dice, st.ship, st.left⟩

def Ship.eqB (s t : Ship) : Bool := s.on == t.on && (s.x == t.x && (s.y == t.y && (s.vx == t.vx && (s.vy == t.vy && (s.cool == t.cool && s.score == t.score)))))
def Shot.eqB (s t : Shot) : Bool := s.owner == t.owner && (s.x == t.x && (s.y == t.y && (s.vx == t.vx && (s.vy == t.vy && s.left == t.left))))
theorem Ship.eqB_iff {s t : Ship} : s.eqB t = true ↔ s = t := by
  obtain ⟨a1, a2, a3, a4, a5, a6, a7⟩ := s
  obtain ⟨b1, b2, b3, b4, b5, b6, b7⟩ := t
  simp [Ship.eqB]
theorem Shot.eqB_iff {s t : Shot} : s.eqB t = true ↔ s = t := by
  obtain ⟨a1, a2, a3, a4, a5, a6⟩ := s
  obtain ⟨b1, b2, b3, b4, b5, b6⟩ := t
  simp [Shot.eqB]
def shipsEq (f g : Nat → Ship) : Bool := (List.range 8).all fun i => (f i).eqB (g i)
theorem shipsEq_iff {f g : Nat → Ship} : shipsEq f g = true ↔ ∀ i, i < 8 → f i = g i := by
  unfold shipsEq; rw [List.all_eq_true]
  exact ⟨fun h i hi => Ship.eqB_iff.1 (h i (by simpa using hi)), fun h i hi => Ship.eqB_iff.2 (h i (by simpa using hi))⟩
/-- Two games in all parts: of the ships, the eight. -/
def Eq (g h : G) : Prop := g.frame = h.frame ∧ g.dice = h.dice ∧ (∀ i, i < 8 → g.ship i = h.ship i) ∧ g.shots = h.shots
theorem Eq.refl (g : G) : Eq g g := ⟨rfl, rfl, fun _ _ => rfl, rfl⟩
theorem shipCells_list (f : Nat → Ship) (i : Nat) (hi : i < 8) : ((shipCells f).drop (i * 7)).take 7 = (f i).cells := by
  match i, hi with
  | 0, _ => rfl
  | 1, _ => rfl
  | 2, _ => rfl
  | 3, _ => rfl
  | 4, _ => rfl
  | 5, _ => rfl
  | 6, _ => rfl
  | 7, _ => rfl
theorem cells_shipj (g : G) (s : Value) (j : Nat) (hj : j < 56) : (cells g s)[2 + j]? = (shipCells g.ship)[j]? := by
  unfold cells
  rw [List.getElem?_toArray, List.append_assoc, List.getElem?_append_right (by simp), List.getElem?_append_left (by rw [shipCells_len]; simp; omega)]
  simp

def tyIn (p : In) : Prop := (-128 ≤ p.x ∧ p.x ≤ 127) ∧ (-128 ≤ p.y ∧ p.y ≤ 127) ∧ (0 ≤ p.b ∧ p.b ≤ 255)
def insCells (f : Nat → In) : List Value := (f 0).cells ++ ((f 1).cells ++ ((f 2).cells ++ ((f 3).cells ++ ((f 4).cells ++ ((f 5).cells ++ ((f 6).cells ++ (f 7).cells))))))
theorem insCells_at (f : Nat → In) (i k : Nat) (hi : i < 8) (hk : k < 3) : (insCells f).toArray[i * 3 + k]? = (f i).cells[k]? := by
  match i, hi with
  | 0, _ => match k, hk with | 0, _ | 1, _ | 2, _ => rfl
  | 1, _ => match k, hk with | 0, _ | 1, _ | 2, _ => rfl
  | 2, _ => match k, hk with | 0, _ | 1, _ | 2, _ => rfl
  | 3, _ => match k, hk with | 0, _ | 1, _ | 2, _ => rfl
  | 4, _ => match k, hk with | 0, _ | 1, _ | 2, _ => rfl
  | 5, _ => match k, hk with | 0, _ | 1, _ | 2, _ => rfl
  | 6, _ => match k, hk with | 0, _ | 1, _ | 2, _ => rfl
  | 7, _ => match k, hk with | 0, _ | 1, _ | 2, _ => rfl
theorem upd_same (f : Nat → Ship) (i : Nat) (s : Ship) : upd f i s i = s := by unfold upd; rw [if_pos rfl]
theorem upd_other (f : Nat → Ship) {i j : Nat} (s : Ship) (h : j ≠ i) : upd f i s j = f j := by unfold upd; rw [if_neg h]
theorem ph1_later (ps : Nat → In) (g : G) (k j : Nat) (h : k ≤ j) : (ph1 ps g k).1 j = g.ship j := by
  induction k with
  | zero => rfl
  | succ k ih => show upd _ k _ j = _; rw [upd_other _ _ (by omega)]; exact ih (by omega)
theorem moved_ok {p : In} {n : Nat} {s : Ship} (h : okShip s) : okShip (moved p n s) := by
  unfold moved
  split
  · obtain ⟨h0, h1, h2, h3, h4, h5, h6, h7, h8⟩ := h
    refine ⟨.inl rfl, Gf.move_bd _ _, Gf.move_bd _ _, Gf.push_bd _ _, Gf.push_bd _ _, ?_, ?_, h7, h8⟩
    · show 0 ≤ (if 0 < s.cool then s.cool - 1 else if shoots p n s = true then 10 else s.cool)
      split
      · omega
      · split <;> omega
    · show (if 0 < s.cool then s.cool - 1 else if shoots p n s = true then 10 else s.cool) ≤ 10
      split
      · omega
      · split <;> omega
  · exact h
theorem made_ok {p : In} {n i : Nat} {s : Ship} (hi : i < 8) : ∀ t ∈ made p n i s, okShot t := by
  unfold made
  split
  · intro t ht
    rcases List.mem_singleton.1 ht with rfl
    refine ⟨by show (0 : Int) ≤ (i : Int); omega, by show (i : Int) < 8; omega, Gf.move_bd _ _, Gf.move_bd _ _, Gf.aimx_bd _ _, Gf.way_bd _, by show (1 : Int) ≤ 24; omega, by show (24 : Int) ≤ 24; omega⟩
  · intro t ht; cases ht
theorem made_len (p : In) (n i : Nat) (s : Ship) : n + (made p n i s).length ≤ 32 ∨ (made p n i s).length = 0 := by
  unfold made
  split
  · rename_i h
    left
    have := h.2
    unfold shoots at this
    simp at this
    simp; omega
  · right; rfl
/-- What holds of ships and shots on the way. -/
structure Way (f : Nat → Ship) (l : List Shot) : Prop where
  ships : ∀ i, i < 8 → okShip (f i)
  shots : ∀ t ∈ l, okShot t
  len : l.length ≤ 32
theorem ok.way {g : G} (h : ok g) : Way g.ship g.shots := ⟨h.2.2.2.1, fun t ht => by
  obtain ⟨i, hi, rfl⟩ := List.getElem_of_mem ht; exact h.2.2.2.2 i hi, h.2.2.1⟩
theorem ph1_way {ps : Nat → In} {g : G} (h : ok g) : ∀ k, k ≤ 8 → Way (ph1 ps g k).1 (ph1 ps g k).2
  | 0, _ => h.way
  | k + 1, hk => by
    have ih := ph1_way (ps := ps) h k (by omega)
    refine ⟨fun i hi => ?_, fun t ht => ?_, ?_⟩
    · by_cases e : i = k
      · subst e; show okShip (upd _ _ _ _); rw [upd_same]; exact moved_ok (ih.ships _ hi)
      · show okShip (upd _ _ _ _); rw [upd_other _ _ e]; exact ih.ships _ hi
    · rcases List.mem_append.1 (show t ∈ (ph1 ps g k).2 ++ made (ps k) (ph1 ps g k).2.length k ((ph1 ps g k).1 k) from ht) with ht | ht
      · exact ih.shots _ ht
      · exact made_ok (by omega) _ ht
    · show ((ph1 ps g k).2 ++ made (ps k) (ph1 ps g k).2.length k ((ph1 ps g k).1 k)).length ≤ 32
      have := made_len (ps k) (ph1 ps g k).2.length k ((ph1 ps g k).1 k)
      have := ih.len
      rw [List.length_append]; omega

theorem upd_self (f : Nat → Ship) (k : Nat) : upd f k (f k) = f := funext fun j => by
  unfold upd; split
  · rename_i h; rw [h]
  · rfl
theorem next_off {p : In} {n i : Nat} {s : Ship} (h : s.on = false) : moved p n s = s ∧ made p n i s = [] := by
  unfold moved made; simp [h]
theorem next_cool {p : In} {n i : Nat} {s : Ship} (h : s.on = true) (hc : 0 < s.cool) : moved p n s = ⟨true, nx p s, ny p s, nvx p s, nvy p s, s.cool - 1, s.score⟩ ∧ made p n i s = [] := by
  have hs : shoots p n s = false := by unfold shoots; simp; intro h; omega
  unfold moved made
  rw [if_pos h, if_pos hc, if_neg (by rw [hs]; simp)]
  exact ⟨rfl, rfl⟩
theorem next_rest {p : In} {n i : Nat} {s : Ship} (h : s.on = true) (hc : s.cool = 0) (hs : shoots p n s = false) : moved p n s = ⟨true, nx p s, ny p s, nvx p s, nvy p s, 0, s.score⟩ ∧ made p n i s = [] := by
  unfold moved made
  rw [if_pos h, if_neg (by omega), if_neg (by rw [hs]; simp), if_neg (by rw [hs]; simp), hc]
  exact ⟨rfl, rfl⟩
theorem next_shot {p : In} {n i : Nat} {s : Ship} (h : s.on = true) (hc : s.cool = 0) (hs : shoots p n s = true) : moved p n s = ⟨true, nx p s, ny p s, nvx p s, nvy p s, 10, s.score⟩ ∧
    made p n i s = [⟨i, nx p s, ny p s, Gf.aimx (Gf.tame p.x) (Gf.tame p.y), Gf.aimy (Gf.tame p.y), 24⟩] := by
  unfold moved made
  rw [if_pos h, if_neg (by omega), if_pos hs, if_pos ⟨h, hs⟩]
  exact ⟨rfl, rfl⟩

structure Way2 (st : St) : Prop where
  ships : ∀ i, i < 8 → okShip (st.ship i)
  left : ∀ t ∈ st.left, okShot t
  dice : 0 ≤ st.dice ∧ st.dice ≤ 18446744073709551615
theorem place_bd (d : Int) : (0 ≤ placeX d ∧ placeX d < 16777216) ∧ (0 ≤ placeY d ∧ placeY d < 16777216) ∧ (0 ≤ placeD d ∧ placeD d ≤ 18446744073709551615) :=
  ⟨(Dn.share_bd (Dn.next_bd d) (n := 16777216) (by omega)).2.2, (Dn.share_bd (Dn.next_bd (Dn.next d)) (n := 16777216) (by omega)).2.2, Dn.next_bd _⟩
theorem anew_ok {d : Int} {f : Nat → Ship} {k : Nat} (h : ∀ i, i < 8 → okShip (f i)) (hk : k < 8) : ∀ i, i < 8 → okShip (anew d f k i) := fun i hi => by
  unfold anew upd
  split
  · have hs := (h k hk).2.2.2.2.2.2
    have hp := place_bd d
    exact ⟨.inl rfl, hp.1, hp.2.1, by unfold slow; dsimp only; omega, by unfold slow; dsimp only; omega, by dsimp only; omega, by dsimp only; omega, hs.2.1, hs.2.2⟩
  · exact h i hi
theorem more_ok {f : Nat → Ship} {o : Nat} (h : ∀ i, i < 8 → okShip (f i)) : ∀ i, i < 8 → okShip (more f o i) := fun i hi => by
  unfold more
  split
  · rename_i hon
    unfold upd
    split
    · rename_i e
      subst e
      obtain ⟨_, h1, h2, h3, h4, h5, h6, h7, h8⟩ := h i hi
      exact ⟨.inl hon, h1, h2, h3, h4, h5, h6, by dsimp only; omega, by dsimp only; omega⟩
    · exact h i hi
  · exact h i hi
theorem fly_ok {s : Shot} (h : okShot s) (hl : (fly s).left ≠ 0) : okShot (fly s) := by
  obtain ⟨h0, h0', h1, h2, h3, h4, h5, h6⟩ := h
  have : (fly s).left = s.left - 1 := rfl
  exact ⟨h0, h0', Gf.move_bd _ _, Gf.move_bd _ _, h3, h4, by omega, by omega⟩
theorem shot1_way {st : St} {s : Shot} (h : Way2 st) (hs : okShot s) : Way2 (shot1 st s) ∧ (shot1 st s).left.length ≤ st.left.length + 1 := by
  unfold shot1
  split
  · exact ⟨h, by omega⟩
  · rename_i hl
    split
    · refine ⟨⟨h.ships, fun t ht => ?_, h.dice⟩, by simp⟩
      rcases List.mem_append.1 ht with ht | ht
      · exact h.left t ht
      · rcases List.mem_singleton.1 ht with rfl; exact fly_ok hs hl
    · rename_i hh
      rcases hit_bd st.ship (fly s) with e | ⟨k, e, hk, _⟩
      · rw [e] at hh; exact absurd (by decide) hh
      · rw [e]
        exact ⟨⟨more_ok (anew_ok h.ships (by simpa using hk)), h.left, (place_bd _).2.2⟩, by simp⟩
theorem ph2_snoc (st : St) (l : List Shot) (j : Nat) (hj : j < l.length) : ph2 st (l.take (j + 1)) = shot1 (ph2 st (l.take j)) l[j] := by
  unfold ph2
  rw [List.take_succ_eq_append_getElem hj, List.foldl_append]; rfl
theorem ph2_way {st : St} {l : List Shot} (h : Way2 st) (hl : ∀ t ∈ l, okShot t) : ∀ j, j ≤ l.length → Way2 (ph2 st (l.take j)) ∧ (ph2 st (l.take j)).left.length ≤ st.left.length + j
  | 0, _ => ⟨by simpa [ph2] using h, by simp [ph2]⟩
  | j + 1, hj => by
    have ih := ph2_way h hl j (by omega)
    have := shot1_way ih.1 (hl _ (List.getElem_mem (show j < l.length by omega)))
    rw [ph2_snoc st l j (by omega)]
    exact ⟨this.1, by omega⟩
end Gm
namespace Go.Proofs.YtkkhdaeihnbilaaGreat
open Go.RowKit
set_option linter.unusedVariables false

set_option maxHeartbeats 400000 in
theorem refin_any (a : Int) (wa : -2147483648 ≤ a ∧ a ≤ 2147483647) (w : World) :
    Calls Tryz.prog 76 #[.int .i32 a] w fun e w' => e = .returned (.bool (decide (0 ≤ a) && decide (a < 16777216))) ∧ w = w' := by
  go_enter Tryz.func76, Tryz.ntmps76
  go_wp2
  all_goals
    go_ret
    exact ⟨ret_bool (by rw [Bool.eq_iff_iff]; simp; omega), rfl⟩
set_option maxHeartbeats 400000 in
theorem refslow_any (a m : Int) (wa : -2147483648 ≤ a ∧ a ≤ 2147483647) (wm : 0 ≤ m ∧ m ≤ 2147483647) (w : World) :
    Calls Tryz.prog 77 #[.int .i32 a, .int .i32 m] w fun e w' => e = .returned (.bool (decide (-m ≤ a) && decide (a ≤ m))) ∧ w = w' := by
  go_enter Tryz.func77, Tryz.ntmps77
  go_wp2
  all_goals
    go_ret
    exact ⟨ret_bool (by rw [Bool.eq_iff_iff]; simp; omega), rfl⟩

theorem cells_at {w : World} {B k : Nat} {g : Gm.G} {s : Value} (hc : ∀ j, w.cell? ⟨B, j, none⟩ = (Gm.cells g s)[j]?) (hk : k < 8) (j : Nat) (hj : j < 7) :
    w.cell? ⟨B, 2 + k * 7 + j, none⟩ = (g.ship k).cells[j]? := (hc _).trans (Gm.cells_ship g s k j hk hj)


theorem add_lit' (a : Addr) (j : Nat) (h : 0 < j) : a.add j = ⟨a.block, a.off + j, none⟩ := by unfold Addr.add; rw [if_neg (by omega)]
/-- The six cells of a shot, as a walk spells them. -/
theorem shots_at {w : World} {B n : Nat} {A : Option Addr} {l : List Gm.Shot} (h : Lies w B 6 A n (Gm.shotCells l)) (hn : n = l.length) (k : Nat) (hk : k < l.length) :
    ∃ ad, A = some ad ∧ ad.block < B ∧ w.cell? (ad.add (k * 6)) = some (.int .i64 l[k].owner) ∧ w.cell? ⟨(ad.add (k * 6)).block, (ad.add (k * 6)).off + 1, none⟩ = some (.int .i32 l[k].x) ∧
      w.cell? ⟨(ad.add (k * 6)).block, (ad.add (k * 6)).off + 2, none⟩ = some (.int .i32 l[k].y) ∧ w.cell? ⟨(ad.add (k * 6)).block, (ad.add (k * 6)).off + 3, none⟩ = some (.int .i32 l[k].vx) ∧
      w.cell? ⟨(ad.add (k * 6)).block, (ad.add (k * 6)).off + 4, none⟩ = some (.int .i32 l[k].vy) ∧ w.cell? ⟨(ad.add (k * 6)).block, (ad.add (k * 6)).off + 5, none⟩ = some (.int .i64 l[k].left) := by
  obtain ⟨ad, e, hb⟩ := h.start (by omega)
  have hc := h.cell ad e (by omega)
  have hj : ∀ j v, j < 6 → l[k].cells[j]? = some v → w.cell? ((ad.add (k * 6)).add j) = some v := fun j v hj hv => by
    rw [add_twice]
    exact hc _ _ ((Gm.shotCells_at l k j hk hj).trans hv)
  refine ⟨ad, e, hb, ?_, ?_, ?_, ?_, ?_, ?_⟩
  · have := hj 0 _ (by omega) rfl; rwa [show (ad.add (k * 6)).add 0 = ad.add (k * 6) from by unfold Addr.add; rfl] at this
  · have := hj 1 _ (by omega) rfl; rwa [add_lit' _ 1 (by omega)] at this
  · have := hj 2 _ (by omega) rfl; rwa [add_lit' _ 2 (by omega)] at this
  · have := hj 3 _ (by omega) rfl; rwa [add_lit' _ 3 (by omega)] at this
  · have := hj 4 _ (by omega) rfl; rwa [add_lit' _ 4 (by omega)] at this
  · have := hj 5 _ (by omega) rfl; rwa [add_lit' _ 5 (by omega)] at this

end Go.Proofs.YtkkhdaeihnbilaaGreat
namespace Go.Proofs.YtkkhdaeihnbilaaGreat
open Go.RowKit
set_option linter.unusedVariables false

section
variable {w : World} {B : Nat} {g : Gm.G} {s : Value}
theorem blk_frame (h : Box w B 28 (Gm.cells g s)) (d : Int) : Box (w.setCell ⟨B, 0, none⟩ (.int .i64 d)) B 28 (Gm.cells { g with frame := d } s) := h.put 0 _
theorem blk_dice (h : Box w B 28 (Gm.cells g s)) (d : Int) : Box (w.setCell ⟨B, 1, none⟩ (.int .u64 d)) B 28 (Gm.cells { g with dice := d } s) := h.put 1 _
theorem blk_shots (h : Box w B 28 (Gm.cells g s)) (s' : Value) : Box (w.setCell ⟨B, 58, none⟩ s') B 28 (Gm.cells g s') := h.put 58 _
theorem set7_list (a b s : Value) (f : Nat → Gm.Ship) (i : Nat) (hi : i < 8) (t : Gm.Ship) :
    (((((((([a, b] ++ Gm.shipCells f ++ [s]).set (2 + i * 7) (.bool t.on)).set (2 + i * 7 + 1) (.int .i32 t.x)).set (2 + i * 7 + 2) (.int .i32 t.y)).set (2 + i * 7 + 3) (.int .i32 t.vx)).set (2 + i * 7 + 4) (.int .i32 t.vy)).set (2 + i * 7 + 5) (.int .i64 t.cool)).set (2 + i * 7 + 6) (.int .i64 t.score)) = [a, b] ++ Gm.shipCells (Gm.upd f i t) ++ [s] := by
  match i, hi with
  | 0, _ => rfl
  | 1, _ => rfl
  | 2, _ => rfl
  | 3, _ => rfl
  | 4, _ => rfl
  | 5, _ => rfl
  | 6, _ => rfl
  | 7, _ => rfl
theorem set7 (g : Gm.G) (s : Value) (i : Nat) (hi : i < 8) (t : Gm.Ship) :
    ((((((((Gm.cells g s).setIfInBounds (2 + i * 7) (.bool t.on)).setIfInBounds (2 + i * 7 + 1) (.int .i32 t.x)).setIfInBounds (2 + i * 7 + 2) (.int .i32 t.y)).setIfInBounds (2 + i * 7 + 3) (.int .i32 t.vx)).setIfInBounds (2 + i * 7 + 4) (.int .i32 t.vy)).setIfInBounds (2 + i * 7 + 5) (.int .i64 t.cool)).setIfInBounds (2 + i * 7 + 6) (.int .i64 t.score)) = Gm.cells { g with ship := Gm.upd g.ship i t } s := by
  unfold Gm.cells
  simp only [List.setIfInBounds_toArray]
  rw [set7_list _ _ _ _ _ hi]
theorem blk_ship (h : Box w B 28 (Gm.cells g s)) {i : Nat} (hi : i < 8) (t : Gm.Ship) :
    Box (((((((w.setCell ⟨B, 2 + i * 7, none⟩ (.bool t.on)).setCell ⟨B, 2 + i * 7 + 1, none⟩ (.int .i32 t.x)).setCell ⟨B, 2 + i * 7 + 2, none⟩ (.int .i32 t.y)).setCell ⟨B, 2 + i * 7 + 3, none⟩ (.int .i32 t.vx)).setCell ⟨B, 2 + i * 7 + 4, none⟩ (.int .i32 t.vy)).setCell ⟨B, 2 + i * 7 + 5, none⟩ (.int .i64 t.cool)).setCell ⟨B, 2 + i * 7 + 6, none⟩ (.int .i64 t.score)) B 28 (Gm.cells { g with ship := Gm.upd g.ship i t } s) := by
  rw [← set7 g s i hi t]
  exact ((((((h.put _ _).put _ _).put _ _).put _ _).put _ _).put _ _).put _ _
end

theorem game_info : (Tryz.prog.info? 28).map (·.size) = some 59 := by kernel_rfl
theorem cells_one (g : Gm.G) (s : Value) (h : s.oneCell' = true) : (Gm.cells g s).all (·.oneCell') = true := by
  refine Array.all_eq_true_iff_forall_mem.2 fun v hv => ?_
  have hv : v ∈ [Value.int .i64 g.frame, Value.int .u64 g.dice] ++ Gm.shipCells g.ship ++ [s] := by simpa [Gm.cells] using hv
  simp only [Gm.shipCells, Gm.Ship.cells, List.mem_append, List.mem_cons, List.not_mem_nil, or_false] at hv
  rcases hv with ((rfl | rfl) | hv) | rfl
  · rfl
  · rfl
  · rcases hv with hv | hv | hv | hv | hv | hv | hv | hv <;> (rcases hv with rfl | rfl | rfl | rfl | rfl | rfl | rfl <;> rfl)
  · exact h

def zeroG : Gm.G := ⟨0, 0, fun _ => Gm.Ship.none, []⟩
theorem game_zero : (Tryz.prog.info? 28).map (·.zero) = some (some (.agg (Gm.cells zeroG (.slice none 0 0)))) := by kernel_rfl
theorem built_new (d : Int) : Tryz.prog.built 28 [(1, .int .u64 d)] = some (Gm.cells (Gm.new d) (.slice none 0 0)) := by kernel_rfl
theorem built_ship (x y c : Int) : Tryz.prog.built 24 [(0, .bool true), (1, .int .i32 x), (2, .int .i32 y), (6, .int .i64 c)] = some #[.bool true, .int .i32 x, .int .i32 y, .int .i32 0, .int .i32 0, .int .i64 0, .int .i64 c] := by kernel_rfl
section
variable {ops : Array Oper} {rest : List Oper} {o : Oper} {a : Act} {w : World} {Q : Exit → Act → World → Prop}
theorem wpList_load_game {x : Operand} {B : Nat} {g : Gm.G} {s : Value} (hgd : o.guard = none) (ho : o.op = .load 28 x) (hx : a.eval x = .pointer (some ⟨B, 0, none⟩)) (hB : Box w B 28 (Gm.cells g s))
    (h : wpList Tryz.prog ops Q rest (a.put o.dst (.agg (Gm.cells g s))) w) : wpList Tryz.prog ops Q (o :: rest) a w :=
  wpList_load_blk hgd ho hx hB Tryz.underlying28 rfl game_info h
theorem wpList_alloc_game (hgd : o.guard = none) (ho : o.op = .alloc 28)
    (h : wpList Tryz.prog ops Q rest (a.put o.dst (.pointer (some ⟨w.heap.size, 0, none⟩))) (w.alloc (.cells (Gm.cells zeroG (.slice none 0 0)) 28))) : wpList Tryz.prog ops Q (o :: rest) a w :=
  wpList_alloc_z hgd ho game_zero rfl h
theorem wpList_store_game_new {x y : Operand} {v : World} {old : Array Value} {g : Gm.G} {s : Value} (hgd : o.guard = none) (ho : o.op = .store 28 x y) (hx : a.eval x = .pointer (some ⟨v.heap.size, 0, none⟩)) (hy : a.eval y = .agg (Gm.cells g s))
    (hs : s.oneCell' = true) (hold : old.size = 59) (h : wpList Tryz.prog ops Q rest (a.put o.dst undef) (v.alloc (.cells (Gm.cells g s) 28))) : wpList Tryz.prog ops Q (o :: rest) a (v.alloc (.cells old 28)) :=
  wpList_store_new hgd ho hx hy rfl rfl game_info hold (cells_one _ _ hs) h
theorem wpList_store_game {x y : Operand} {B : Nat} {g g' : Gm.G} {s s' : Value} (hgd : o.guard = none) (ho : o.op = .store 28 x y) (hx : a.eval x = .pointer (some ⟨B, 0, none⟩)) (hy : a.eval y = .agg (Gm.cells g s))
    (hs : s.oneCell' = true) (hB : Box w B 28 (Gm.cells g' s')) (h : wpList Tryz.prog ops Q rest (a.put o.dst undef) (w.setRow B (Gm.cells g s))) : wpList Tryz.prog ops Q (o :: rest) a w :=
  wpList_store_blk hgd ho hx hy hB game_info rfl (cells_one _ _ hs) h
/-- A game's load, a game's store, met by their types alone: what they want. -/
def LoadGame (ops : Array Oper) (Q : Exit → Act → World → Prop) (rest : List Oper) (dst : Option Tmp) (p : Value) (a : Act) (w : World) : Prop :=
  ∃ (B : Nat) (g : Gm.G) (s : Value), p = .pointer (some ⟨B, 0, none⟩) ∧ Box w B 28 (Gm.cells g s) ∧ wpList Tryz.prog ops Q rest (a.put dst (.agg (Gm.cells g s))) w
theorem LoadGame.mk {dst : Option Tmp} {p : Value} {B : Nat} {g : Gm.G} {s : Value} (hp : p = .pointer (some ⟨B, 0, none⟩)) (hB : Box w B 28 (Gm.cells g s)) (h : wpList Tryz.prog ops Q rest (a.put dst (.agg (Gm.cells g s))) w) : LoadGame ops Q rest dst p a w := ⟨B, g, s, hp, hB, h⟩
theorem load_gate {x : Operand} (hgd : o.guard = none) (ho : o.op = .load 28 x) (h : LoadGame ops Q rest o.dst (a.eval x) a w) : wpList Tryz.prog ops Q (o :: rest) a w := by
  obtain ⟨B, g, s, hx, hB, h⟩ := h
  exact wpList_load_game hgd ho hx hB h
def StoreGame (ops : Array Oper) (Q : Exit → Act → World → Prop) (rest : List Oper) (dst : Option Tmp) (p v : Value) (a : Act) (w : World) : Prop :=
  ∃ (B : Nat) (g : Gm.G) (s : Value) (g' : Gm.G) (s' : Value), p = .pointer (some ⟨B, 0, none⟩) ∧ v = .agg (Gm.cells g s) ∧ s.oneCell' = true ∧ Box w B 28 (Gm.cells g' s') ∧ wpList Tryz.prog ops Q rest (a.put dst undef) (w.setRow B (Gm.cells g s))
theorem StoreGame.mk {dst : Option Tmp} {p v : Value} {B : Nat} {g g' : Gm.G} {s s' : Value} (hp : p = .pointer (some ⟨B, 0, none⟩)) (hv : v = .agg (Gm.cells g s)) (hs : s.oneCell' = true) (hB : Box w B 28 (Gm.cells g' s')) (h : wpList Tryz.prog ops Q rest (a.put dst undef) (w.setRow B (Gm.cells g s))) : StoreGame ops Q rest dst p v a w := ⟨B, g, s, g', s', hp, hv, hs, hB, h⟩
theorem store_gate {x y : Operand} (hgd : o.guard = none) (ho : o.op = .store 28 x y) (h : StoreGame ops Q rest o.dst (a.eval x) (a.eval y) a w) : wpList Tryz.prog ops Q (o :: rest) a w := by
  obtain ⟨B, g, s, g', s', hx, hy, hs, hB, h⟩ := h
  exact wpList_store_game hgd ho hx hy hs hB h
end
end Go.Proofs.YtkkhdaeihnbilaaGreat
namespace Go.Proofs.YtkkhdaeihnbilaaGreat
open Go.RowKit
set_option linter.unusedVariables false

theorem shot_info : (Tryz.prog.info? 90).map (fun i => (i.zero, i.size, i.bytes)) = some (some (.agg #[.int .i64 0, .int .i32 0, .int .i32 0, .int .i32 0, .int .i32 0, .int .i64 0]), 6, 32) := by kernel_rfl
theorem shotCells_one (l : List Gm.Shot) : ∀ u ∈ Gm.shotCells l, u.oneCell' = true := by
  intro u hu
  obtain ⟨s, _, hs⟩ := List.mem_flatMap.1 hu
  simp only [Gm.Shot.cells, List.mem_cons, List.not_mem_nil, or_false] at hs
  rcases hs with rfl | rfl | rfl | rfl | rfl | rfl <;> rfl

/-- The seven stores of a ship. -/
def stored (w : World) (B k : Nat) (t : Gm.Ship) : World :=
  ((((((w.setCell ⟨B, 2 + k * 7, none⟩ (.bool t.on)).setCell ⟨B, 2 + k * 7 + 1, none⟩ (.int .i32 t.x)).setCell ⟨B, 2 + k * 7 + 2, none⟩ (.int .i32 t.y)).setCell ⟨B, 2 + k * 7 + 3, none⟩ (.int .i32 t.vx)).setCell ⟨B, 2 + k * 7 + 4, none⟩ (.int .i32 t.vy)).setCell ⟨B, 2 + k * 7 + 5, none⟩ (.int .i64 t.cool)).setCell ⟨B, 2 + k * 7 + 6, none⟩ (.int .i64 t.score)
theorem stored_far {w : World} {B B' k : Nat} {t : TypeId} {cs : Array Value} (h : Box w B' t cs) (hne : B' ≠ B) (s : Gm.Ship) : Box (stored w B k s) B' t cs :=
  ((((((h.far hne _).far hne _).far hne _).far hne _).far hne _).far hne _).far hne _
theorem stored_below {w0 w : World} {C B k : Nat} (h : Below C w0 w) (hC : C ≤ B) (s : Gm.Ship) : Below C w0 (stored w B k s) :=
  ((((((h.setCell hC _).setCell hC _).setCell hC _).setCell hC _).setCell hC _).setCell hC _).setCell hC _
theorem stored_own {w : World} {base : Nat} {e : TypeId} {size n B k : Nat} {v : Value} {xs : List Value} (h : w.ownsRow base e size v n xs) (hne : v.ownBlock ≠ some B) (s : Gm.Ship) : (stored w B k s).ownsRow base e size v n xs :=
  ownsRow_setCell_other (ownsRow_setCell_other (ownsRow_setCell_other (ownsRow_setCell_other (ownsRow_setCell_other (ownsRow_setCell_other (ownsRow_setCell_other h hne _) hne _) hne _) hne _) hne _) hne _) hne _
theorem lies_made (w : World) (t : TypeId) (s : Gm.Shot) : Lies (w.alloc (.cells #[.int .i64 s.owner, .int .i32 s.x, .int .i32 s.y, .int .i32 s.vx, .int .i32 s.vy, .int .i64 s.left] t)) (w.alloc (.cells #[.int .i64 s.owner, .int .i32 s.x, .int .i32 s.y, .int .i32 s.vx, .int .i32 s.vy, .int .i64 s.left] t)).heap.size 6 (some ⟨w.heap.size, 0, none⟩) 1 (Gm.shotCells [s]) := by
  refine ⟨rfl, fun _ => ⟨_, rfl, by simp⟩, fun ad e _ j u hu => ?_⟩
  injection e with e
  subst e
  have hadd : (⟨w.heap.size, 0, none⟩ : Addr).add j = ⟨w.heap.size, j, none⟩ := by unfold Addr.add; split <;> simp_all
  rw [hadd, (Box.made w t _).cell j, ← hu]
  simp [Gm.shotCells, Gm.Shot.cells]
end Go.Proofs.YtkkhdaeihnbilaaGreat
namespace Go.Proofs.YtkkhdaeihnbilaaGreat
open Go.RowKit Go.Shelf
set_option linter.unusedVariables false

/-- The bytes of a ship. -/
def Im.ship (s : Gm.Ship) : List Int :=
  if s.on = true then Im.bytesOf 1 1 ++ (Im.flight (fun k => match k with | 0 => s.x | 1 => s.y | 2 => s.vx | _ => s.vy) 4 ++ (Im.bytesOf 1 s.cool ++ Im.bytesOf 4 s.score)) else Im.bytesOf 1 0

set_option maxRecDepth 100000 in
set_option maxHeartbeats 2000000 in
theorem layship_off (P o : Nat) (t : TypeId) (cs : Array Value) (bs : List Int) (b Bb Bp : Nat) (w : World) (hbB : b ≤ Bb) (h : Wr b Bb Bp bs w) (hl : bs.length + 1 ≤ 65536) (hP : Box w P t cs) (ho : cs[o]? = some (.bool false)) (h1 : t ≠ 72) (h2 : t ≠ 5) (h3 : t ≠ 115) :
    Calls Tryz.prog 114 #[.func (.func 117) #[] #[.pointer (some ⟨Bp, 0, none⟩)], .pointer (some ⟨P, o, none⟩)] w fun e w' => e = .returned (.tuple #[]) ∧ Wr b Bb Bp (bs ++ Im.bytesOf 1 0) w' ∧ Wrote b Bb w w' := by
  have k0 := hP.cell o
  rw [ho] at k0
  have ltP := hP.lt
  have HL := Lib.hid (Box.made w 3 #[.int .i64 0])
  have HPA := Lib.hid (hP.alloc (.cells #[.int .i64 0] 3))
  have HA := Lib.hid (h.alloc (.cells #[.int .i64 0] 3))
  have WA := Lib.hid ((Wrote.refl hbB w).alloc (.cells #[.int .i64 0] 3))
  have c1 := Lib.hid (layint_w 1 1 rfl 0 w.heap.size 0 3 #[.int .i64 0] bs b Bb Bp _ (by decide) (by omega) hbB HA.out (by omega) HL.out rfl (by decide) (by decide) (by decide))
  rw [show IntKind.u64.wrap 0 = 0 from rfl] at c1
  have hvar := Lib.hid HA.out.isvar
  have HO := Lib.hid ho
  clear h hP ho
  go_enter Tryz.func114, Tryz.ntmps114
  go_wp2_with (first | (go_at_call 72; ((with_reducible refine (need_yes _ _).mono ?_); rintro e wn ⟨rfl, rfl⟩)) | (go_at_call 112; ((with_reducible refine (c1.out).mono ?_); rintro e w1 ⟨rfl, hI1, hK1⟩; have L1 := HL.out.wrote' hK1 hvar.out (by decide) (by decide); have l1 := L1.cell 0; have P1 := Lib.hid (HPA.out.wrote' hK1 hvar.out h1 h2); have p1 := P1.out.cell o; rw [HO.out] at p1; have f1 := P1.out.free o; have I1 := Lib.hid hI1; have K1 := Lib.hid (WA.out.trans hK1); clear hI1 hK1 L1 k0)))
  refine bodyPost_ret (results_none rfl _ _ _) rfl ?_
  exact ⟨rfl, I1.out.off (p := ⟨P, o, none⟩) P1.out h3 h1 h2 _, K1.out.noop P1.out HO.out⟩

set_option maxRecDepth 100000 in
set_option maxHeartbeats 4000000 in
theorem layship_on (x y vx vy cool score : Int) (P o : Nat) (t : TypeId) (cs : Array Value) (bs : List Int) (b Bb Bp : Nat) (w : World) (hbB : b ≤ Bb) (h : Wr b Bb Bp bs w) (hl : bs.length + 22 ≤ 65536) (hP : Box w P t cs)
    (o0 : cs[o]? = some (.bool true)) (o1 : cs[o + 1]? = some (.int .i32 x)) (o2 : cs[o + 2]? = some (.int .i32 y)) (o3 : cs[o + 3]? = some (.int .i32 vx)) (o4 : cs[o + 4]? = some (.int .i32 vy)) (o5 : cs[o + 5]? = some (.int .i64 cool)) (o6 : cs[o + 6]? = some (.int .i64 score))
    (wx : -2147483648 ≤ x ∧ x ≤ 2147483647) (wy : -2147483648 ≤ y ∧ y ≤ 2147483647) (wvx : -2147483648 ≤ vx ∧ vx ≤ 2147483647) (wvy : -2147483648 ≤ vy ∧ vy ≤ 2147483647) (wc : 0 ≤ cool ∧ cool ≤ 10) (ws : 0 ≤ score ∧ score ≤ 1073741824) (h1 : t ≠ 72) (h2 : t ≠ 5) (h3 : t ≠ 115) :
    Calls Tryz.prog 114 #[.func (.func 117) #[] #[.pointer (some ⟨Bp, 0, none⟩)], .pointer (some ⟨P, o, none⟩)] w fun e w' => e = .returned (.tuple #[]) ∧ Wr b Bb Bp (bs ++ Im.ship ⟨true, x, y, vx, vy, cool, score⟩) w' ∧ Wrote b Bb w w' := by
  have k0 := hP.cell o
  rw [o0] at k0
  have ltP := hP.lt
  have HL := Lib.hid (Box.made w 3 #[.int .i64 1])
  have HPA := Lib.hid (hP.alloc (.cells #[.int .i64 1] 3))
  have HA := Lib.hid (h.alloc (.cells #[.int .i64 1] 3))
  have WA := Lib.hid ((Wrote.refl hbB w).alloc (.cells #[.int .i64 1] 3))
  have c1 := Lib.hid (layint_w 1 1 rfl 1 w.heap.size 0 3 #[.int .i64 1] bs b Bb Bp _ (by decide) (by omega) hbB HA.out (by omega) HL.out rfl (by decide) (by decide) (by decide))
  rw [show IntKind.u64.wrap 1 = 1 from rfl] at c1
  have hvar := Lib.hid HA.out.isvar
  have HO := Lib.hid o0
  clear h hP o0
  go_enter Tryz.func114, Tryz.ntmps114
  go_upto_region 6 with (first | (go_at_call 72; ((with_reducible refine (need_yes _ _).mono ?_); rintro e wn ⟨rfl, rfl⟩)) | (go_at_call 112; ((with_reducible refine (c1.out).mono ?_); rintro e w1 ⟨rfl, hI1, hK1⟩; have L1 := HL.out.wrote' hK1 hvar.out (by decide) (by decide); have l1 := L1.cell 0; have P1 := Lib.hid (HPA.out.wrote' hK1 hvar.out h1 h2); have p1 := P1.out.cell o; rw [HO.out] at p1; have f1 := P1.out.free o; have I1 := Lib.hid hI1; have K1 := Lib.hid (WA.out.trans hK1); clear hI1 hK1 L1 k0)))
  obtain ⟨U, hU⟩ : ∃ U, U = w1.setCell ⟨P, o, none⟩ (.bool true) := ⟨_, rfl⟩
  have IU : Wr b Bb Bp (bs ++ Im.bytesOf 1 1) U := by rw [hU]; exact I1.out.off (p := ⟨P, o, none⟩) P1.out h3 h1 h2 _
  have KU : Wrote b Bb w U := by rw [hU]; exact K1.out.noop P1.out HO.out
  have PU : Box U P t cs := ⟨by rw [hU, setCell_noop P1.out HO.out]; exact P1.out.is⟩
  rw [← hU]
  have u0 := PU.cell o
  rw [HO.out] at u0
  have IU := Lib.hid IU
  have KU := Lib.hid KU
  have PU := Lib.hid PU
  clear hU I1 K1 P1 p1 f1 l1 HA HL HPA WA hvar c1
  go_upto_region 7 with fail
  have cf := fun X (hX : Wr b Bb Bp (bs ++ Im.bytesOf 1 1) X) (hB : Box X P t cs) Bq hq => Lib.hid (layflight_w (fun k => match k with | 0 => x | 1 => y | 2 => vx | _ => vy) (fun k => o + 1 + k) P Bq t cs (bs ++ Im.bytesOf 1 1) b Bb Bp X (fun k hk => by
    match k, hk with
    | 0, _ => exact wx
    | 1, _ => exact wy
    | 2, _ => exact wvx
    | 3, _ => exact wvy) hbB hX (by rw [List.length_append, Im.bytesOf_len]; omega) hB (fun k hk => by
    match k, hk with
    | 0, _ => exact o1
    | 1, _ => exact o2
    | 2, _ => exact o3
    | 3, _ => exact o4) h1 h2 h3 hq 4)
  refine Rp.wp_region_lex (by kernel_rfl) [] (by kernel_rfl) (· = U.drew) (fun _ => True) (fun _ => True) rfl (fun W hW => ⟨trivial, trivial⟩) ?_
  repeat (first
    | (apply Rp.lex_free rfl rfl; focus (intro _; go_simp; first | done | rfl))
    | (apply Rp.lex_look rfl rfl rfl rfl; focus (intro W hW; clear hW; go_simp; first | done | rfl)))
  refine Rp.lex_make rfl (W' := U.drew.alloc (.cells #[.pointer (some ⟨P, o + 1, none⟩), .pointer (some ⟨P, o + 2, none⟩), .pointer (some ⟨P, o + 3, none⟩), .pointer (some ⟨P, o + 4, none⟩)] 166)) (v := .slice (some ⟨U.drew.heap.size, 0, none⟩) 4 4) ?_ ⟨trivial, trivial⟩ ?_
  focus (go_simp; first | done | rfl)
  refine Rp.lex_call (C' := fun Z => Wr b Bb Bp (bs ++ Im.bytesOf 1 1 ++ Im.flight (fun k => match k with | 0 => x | 1 => y | 2 => vx | _ => vy) 4) Z ∧ Wrote b Bb w Z ∧ Box Z P t cs) (v := .tuple #[]) (f := 136) (args := #[.func (.func 117) #[] #[.pointer (some ⟨Bp, 0, none⟩)], .slice (some ⟨U.drew.heap.size, 0, none⟩) 4 4]) rfl ?_ ?_ ?_ ?_
  · intro Z hZ; clear hZ; go_simp; first | done | rfl | exact ⟨rfl, rfl⟩
  · intro Z hZ
    subst hZ
    have hW := (IU.out.call (one_below' U)).alloc (.cells #[.pointer (some ⟨P, o + 1, none⟩), .pointer (some ⟨P, o + 2, none⟩), .pointer (some ⟨P, o + 3, none⟩), .pointer (some ⟨P, o + 4, none⟩)] 166)
    refine (cf _ hW (PU.out.drew.alloc _) U.drew.heap.size (Box.made _ _ _)).out.mono ?_
    rintro e Z2 ⟨rfl, hI2, hK2⟩
    exact ⟨rfl, hI2, (KU.out.drew.alloc _).trans hK2, (PU.out.drew.alloc _).wrote' hK2 hW.isvar h1 h2⟩
  · exact fun Z hZ => ⟨trivial, trivial⟩
  refine Rp.lex_end fun W3 hW3 => ?_
  obtain ⟨hI3, hK3, hP3⟩ := hW3
  have P3 := Lib.hid hP3
  have p3 := P3.out.cell
  have IV3 := Lib.hid hI3.isvar
  have K3 := Lib.hid hK3
  have hwc : IntKind.u64.wrap cool = cool := by rw [IntKind.wrap_u64]; omega
  have hws : IntKind.u64.wrap score = score := by rw [IntKind.wrap_u64]; omega
  have lf := Im.flight_len (fun k => match k with | 0 => x | 1 => y | 2 => vx | _ => vy) 4
  have c5 := Lib.hid (layint_w 1 1 rfl cool P (o + 5) t cs _ b Bb Bp W3 (by decide) (by omega) hbB hI3 (by rw [List.length_append, List.length_append, Im.bytesOf_len, lf]; omega) hP3 o5 h1 h2 h3)
  rw [hwc] at c5
  have c6 := fun X (hX : Wr b Bb Bp (bs ++ Im.bytesOf 1 1 ++ Im.flight (fun k => match k with | 0 => x | 1 => y | 2 => vx | _ => vy) 4 ++ Im.bytesOf 1 cool) X) (hB : Box X P t cs) => Lib.hid (layint_w 4 4 rfl score P (o + 6) t cs _ b Bb Bp X (by decide) (by omega) hbB hX (by rw [List.length_append, List.length_append, List.length_append, Im.bytesOf_len, Im.bytesOf_len, lf]; omega) hB o6 h1 h2 h3)
  rw [hws] at c6
  have hsh : Hid (bs ++ Im.bytesOf 1 1 ++ Im.flight (fun k => match k with | 0 => x | 1 => y | 2 => vx | _ => vy) 4 ++ Im.bytesOf 1 cool ++ Im.bytesOf 4 score = bs ++ Im.ship ⟨true, x, y, vx, vy, cool, score⟩) := Lib.hid (by simp [Im.ship])
  generalize Im.flight (fun k => match k with | 0 => x | 1 => y | 2 => vx | _ => vy) 4 = FL at *
  clear hI3 hK3 hP3 cf IU KU PU hwc hws lf u0 o1 o2 o3 o4 o5 o6
  go_wp2_with (first | (go_at_call 112; ((with_reducible refine (c5.out).mono ?_); rintro e w4 ⟨rfl, hI, hK⟩; have P4 := Lib.hid (P3.out.wrote' hK IV3.out h1 h2); have p4 := P4.out.cell; have IV4 := Lib.hid hI.isvar; have I4 := Lib.hid hI; have K4 := Lib.hid (K3.out.trans hK); clear hI hK)) | (go_at_call 112; ((with_reducible refine ((c6 _ I4.out P4.out).out).mono ?_); rintro e w5 ⟨rfl, hI, hK⟩; have P5 := Lib.hid (P4.out.wrote' hK IV4.out h1 h2); have p5 := P5.out.cell; have IV5 := Lib.hid hI.isvar; have I5 := Lib.hid hI; have K5 := Lib.hid (K4.out.trans hK); clear hI hK)))
  go_end0
  exact ⟨rfl, by rw [← hsh.out]; exact I5.out, K5.out⟩
end Go.Proofs.YtkkhdaeihnbilaaGreat
namespace Go.Proofs.YtkkhdaeihnbilaaGreat
open Go.RowKit Go.Shelf
set_option linter.unusedVariables false

def Im.shot (s : Gm.Shot) : List Int := Im.bytesOf 1 s.owner ++ (Im.flight (fun k => match k with | 0 => s.x | 1 => s.y | 2 => s.vx | _ => s.vy) 4 ++ Im.bytesOf 1 s.left)
def Im.shots (l : List Gm.Shot) : List Int := l.flatMap Im.shot
theorem Im.shot_len (s : Gm.Shot) : (Im.shot s).length = 18 := by unfold Im.shot; rw [List.length_append, List.length_append, Im.bytesOf_len, Im.bytesOf_len, Im.flight_len]
theorem Im.shots_len (l : List Gm.Shot) : (Im.shots l).length = 18 * l.length := by
  induction l with
  | nil => rfl
  | cons s l ih => unfold Im.shots at *; rw [List.flatMap_cons, List.length_append, ih, Im.shot_len, List.length_cons]; omega
theorem Im.shots_snoc (l : List Gm.Shot) (k : Nat) (h : k < l.length) : Im.shots (l.take (k + 1)) = Im.shots (l.take k) ++ Im.shot l[k] := by
  unfold Im.shots
  rw [List.take_succ_eq_append_getElem h, List.flatMap_append]
  simp
theorem shot_size : (Tryz.prog.info? 90).map (·.size) = some 6 := by kernel_rfl


set_option maxRecDepth 100000 in
set_option maxHeartbeats 4000000 in
theorem layshots_w (l : List Gm.Shot) (n : Nat) (A : Option Addr) (c B : Nat) (t : TypeId) (cs : Array Value) (bs : List Int) (b Bb Bp : Nat) (w : World) (hn : n = l.length) (hn32 : n ≤ 32) (hok : ∀ s ∈ l, Gm.okShot s) (hbB : b ≤ Bb) (hbP : b ≤ B) (hbw : b ≤ w.heap.size) (h : Wr b Bb Bp bs w) (hl : bs.length + 1 + 18 * 32 ≤ 65536) (hP : Box w B t cs)
    (ho : cs[58]? = some (.slice A n c)) (hL : Lies w b 6 A n (Gm.shotCells l)) (h1 : t ≠ 72) (h2 : t ≠ 5) (h3 : t ≠ 115) (h4 : t ≠ 90) :
    Calls Tryz.prog 115 #[.func (.func 117) #[] #[.pointer (some ⟨Bp, 0, none⟩)], .pointer (some ⟨B, 0, none⟩)] w fun e w' => e = .returned (.tuple #[]) ∧ Wr b Bb Bp (bs ++ (Im.bytesOf 1 n ++ Im.shots l)) w' ∧ Below b w w' ∧ Kb B w w' ∧ ∃ S, Box w' B t (cs.setIfInBounds 58 (.slice (some ⟨S, 0, none⟩) n n)) := by
  have k0 := hP.cell 58
  rw [ho] at k0
  have ltP := hP.lt
  have hwn : IntKind.u64.wrap (n : Int) = n := by rw [IntKind.wrap_u64]; omega
  have HL := Lib.hid (Box.made w 3 #[.int .i64 n])
  have HPA := Lib.hid (hP.alloc (.cells #[.int .i64 n] 3))
  have HA := Lib.hid (h.alloc (.cells #[.int .i64 n] 3))
  have WA := Lib.hid ((Wrote.refl hbB w).alloc (.cells #[.int .i64 n] 3))
  have KA := Lib.hid ((Kb.refl (B := B) w).call (one_below w (.cells #[.int .i64 n] 3)))
  have c1 := Lib.hid (layint_w 1 1 rfl n w.heap.size 0 3 #[.int .i64 n] bs b Bb Bp _ (by decide) (by omega) hbB HA.out (by omega) HL.out rfl (by decide) (by decide) (by decide))
  rw [hwn] at c1
  have hvar := Lib.hid HA.out.isvar
  have HO := Lib.hid ho
  have HLs := Lib.hid hL
  obtain ⟨i0, hi0, hz0, hz1, hz2⟩ := info_parts shot_info
  obtain ⟨Z, hZ⟩ : ∃ Z, Z = madeCells (Value.agg #[.int .i64 0, .int .i32 0, .int .i32 0, .int .i32 0, .int .i32 0, .int .i64 0]).cells (n * 6) := ⟨_, rfl⟩
  have hZs : Z.size = n * 6 := by rw [hZ, size_madeCells]
  have hmk : ∀ W : World, (Instr.makeSlice 26 (.int .i64 (n : Int)) (.int .i64 (n : Int))).run Tryz.prog W = .ok (.slice (some ⟨W.heap.size, 0, none⟩) n n) (W.alloc (.cells Z 90)) := fun W => by
    have := run_make (P := Tryz.prog) W 26 90 i0 _ Tryz.underlying26 hi0 hz0 .i64 .i64 n n (by omega) (Int.le_refl _) (by rw [hz2]; omega) (by omega)
    rw [this, hZ, hz1, Int.toNat_natCast]
  have hcp : ∀ W : World, Lies W W.heap.size 6 A n (Gm.shotCells l) → (Builtin.copy_ #[26, 26] 3 #[.slice (some ⟨W.heap.size, 0, none⟩) n n, .slice A n c]).run Tryz.prog (W.alloc (.cells Z 90)) = .ok (.int .i64 n) (W.alloc (.cells (Gm.shotCells l).toArray 90)) := fun W hW => by
    cases A with
    | none =>
      have hn0 : n = 0 := by
        by_cases h0 : n = 0
        · exact h0
        · obtain ⟨ad, e, _⟩ := hW.start h0
          cases e
      have hl0 : l = [] := List.eq_nil_of_length_eq_zero (by omega)
      have hz : Z = #[] := Array.eq_empty_of_size_eq_zero (by omega)
      have := run_copy_nought (P := Tryz.prog) (W.alloc (.cells Z 90)) 26 26 3 90 ⟨W.heap.size, 0, none⟩ n n c Tryz.underlying26 (by rw [Option.isSome_map]; rw [hi0]; rfl)
      rw [hn0] at this ⊢
      rw [hl0]
      rw [hz] at this ⊢
      simpa [goInt, Gm.shotCells] using this
    | some ad =>
      have hc : ∀ j v, (Gm.shotCells l)[j]? = some v → (W.alloc (.cells Z 90)).cell? (ad.add j) = some v := fun j v hv => by
        have hn0 : n ≠ 0 := fun e => by
          have := (List.getElem?_eq_some_iff.1 hv).1
          rw [Gm.shotCells_len] at this
          omega
        exact (hW.below (one_below W (.cells Z 90))).cell ad rfl hn0 j v hv
      have := run_copy_rows (P := Tryz.prog) (W.alloc (.cells Z 90)) 26 26 3 90 6 W.heap.size n n ad n c Z 90 (Gm.shotCells l) Tryz.underlying26 shot_size (Box.made W _ _).is (by rw [hW.len]; simp) hc (by rw [hW.len, hZs]) (shotCells_one l)
      rw [World.setRow_alloc_new] at this
      simpa [goInt] using this
  have NL := Lib.hid hn
  clear h hP ho hL hZ hn
  go_enter Tryz.func115, Tryz.ntmps115
  go_upto_region 2 with (go_at_call 112; ((with_reducible refine (c1.out).mono ?_); rintro e w1 ⟨rfl, hI1, hK1⟩; have L1 := HL.out.wrote' hK1 hvar.out (by decide) (by decide); have l1 := L1.cell 0; have P1 := Lib.hid (HPA.out.wrote' hK1 hvar.out h1 h2); have I1 := Lib.hid hI1; have K1 := Lib.hid (WA.out.trans hK1); have B1 := Lib.hid (KA.out.wrote hK1 hvar.out); clear hI1 hK1 L1 k0))
  have lw1 := (HLs.out.below (K1.out.to hbw))
  have hcpw := hcp w1 (lw1.wider (Nat.le_trans hbw K1.out.size))
  have p58 : ∀ o, (w1.alloc o).cell? ⟨B, 58, none⟩ = some (.slice A n c) := fun o => ((P1.out.alloc o).cell 58).trans HO.out
  have f58 : ∀ o, (w1.alloc o).frozen? ⟨B, 58, none⟩ = false := fun o => (P1.out.alloc o).free 58
  have sz1 : w.heap.size ≤ w1.heap.size := K1.out.size
  clear hcp lw1 HLs HL HPA HA WA KA c1
  go_upto_region 5 with fail
  obtain ⟨U, hU⟩ : ∃ U, U = (w1.alloc (.cells (Gm.shotCells l).toArray 90)).setCell ⟨B, 58, none⟩ (.slice (some ⟨w1.heap.size, 0, none⟩) n n) := ⟨_, rfl⟩
  have PU : Box U B t (cs.setIfInBounds 58 (.slice (some ⟨w1.heap.size, 0, none⟩) n n)) := by rw [hU]; exact (P1.out.alloc _).put 58 _
  have SU : Box U w1.heap.size 90 (Gm.shotCells l).toArray := by rw [hU]; exact (Box.made w1 _ _).far (by show _ ≠ B; have := P1.out.lt; omega) _
  have IU : Wr b Bb Bp (bs ++ Im.bytesOf 1 n) U := by rw [hU]; exact (I1.out.alloc _).off (p := ⟨B, 58, none⟩) (P1.out.alloc _) h3 h1 h2 _
  have BU : Below b w U := by rw [hU]; exact ((K1.out.to hbw).alloc (Nat.le_trans hbw sz1) _).setCell hbP _
  have KU : Kb B w U := by rw [hU]; exact (B1.out.call (one_below _ _)).put 58 _
  rw [← hU]
  generalize w1.heap.size = S at *
  have IU := Lib.hid IU
  have PU := Lib.hid PU
  have SU := Lib.hid SU
  have BU := Lib.hid BU
  have KU := Lib.hid KU
  have IVU := Lib.hid IU.out.isvar
  clear hU I1 K1 P1 B1 p58 f58 hcpw hmk l1 hvar HO
  go_wp2
  go_loopw [29] (fun i wr => ∃ k : Nat, k ≤ n ∧ i = .int .i64 k ∧ Wr b Bb Bp (bs ++ Im.bytesOf 1 n ++ Im.shots (l.take k)) wr ∧ Wrote b Bb U wr) (fun i _ => n - (intOf i).toNat)
  case atStart => exact ⟨0, by omega, rfl, by simpa [Im.shots] using IU.out, Wrote.refl hbB U⟩
  case round =>
    obtain ⟨k, hk, rfl, hI, hK⟩ := hrel
    by_cases hlt : k < n
    · have hk8 : (k : Int) < n := by omega
      have hkl : k < l.length := by have := NL.out; omega
      have ok := hok l[k] (List.getElem_mem hkl)
      have hsn := Im.shots_snoc l k hkl
      have lens : (bs ++ Im.bytesOf 1 n ++ Im.shots (l.take k)).length ≤ bs.length + 1 + 18 * k := by
        rw [List.length_append, List.length_append, Im.bytesOf_len, Im.shots_len]; have := List.length_take_le k l; omega
      have sc : ∀ j, j < 6 → (Gm.shotCells l).toArray[k * 6 + j]? = (l[k]).cells[j]? := fun j hj => by rw [List.getElem?_toArray]; exact Gm.shotCells_at l k j hkl hj
      generalize hs : l[k] = s at ok hsn sc
      obtain ⟨owner, x, y, vx, vy, left⟩ := s
      have s0 := sc 0 (by omega)
      have s1 := sc 1 (by omega)
      have s2 := sc 2 (by omega)
      have s3 := sc 3 (by omega)
      have s4 := sc 4 (by omega)
      have s5 := sc 5 (by omega)
      simp only [Gm.Shot.cells, List.getElem?_cons_zero, List.getElem?_cons_succ, Nat.add_zero] at s0 s1 s2 s3 s4 s5
      obtain ⟨w0, w1', ⟨w2, w2'⟩, ⟨w3, w3'⟩, ⟨w4, w4'⟩, ⟨w5, w5'⟩, w6, w6'⟩ := ok
      dsimp only at w0 w1' w2 w2' w3 w3' w4 w4' w5 w5' w6 w6'
      generalize hbs : bs ++ Im.bytesOf 1 n ++ Im.shots (l.take k) = bk at *
      have HSN := Lib.hid (show bs ++ Im.bytesOf 1 n ++ Im.shots (l.take (k + 1)) = bk ++ Im.bytesOf 1 owner ++ Im.flight (fun k => match k with | 0 => x | 1 => y | 2 => vx | _ => vy) 4 ++ Im.bytesOf 1 left by rw [hsn, ← List.append_assoc, hbs]; simp [Im.shot])
      have hwo : IntKind.u64.wrap owner = owner := by rw [IntKind.wrap_u64]; omega
      have hwl : IntKind.u64.wrap left = left := by rw [IntKind.wrap_u64]; omega
      have P2 := Lib.hid (SU.out.wrote' hK IVU.out (by decide) (by decide))
      have IV2 := Lib.hid hI.isvar
      have K2 := Lib.hid hK
      have c3 := Lib.hid (layint_w 1 1 rfl owner S (k * 6) 90 _ bk b Bb Bp wr (by decide) (by omega) hbB hI (by omega) P2.out s0 (by decide) (by decide) (by decide))
      rw [hwo] at c3
      have p2 := P2.out.cell
      clear hsn sc hs hbs hI hK hwo
      go_upto_region 10 with (go_at_call 112; ((with_reducible refine (c3.out).mono ?_); rintro e w3 ⟨rfl, hI, hK⟩; have P3 := Lib.hid (P2.out.wrote' hK IV2.out (by decide) (by decide)); have p3 := P3.out.cell; have IV3 := Lib.hid hI.isvar; have I3 := Lib.hid hI; have K3 := Lib.hid (K2.out.trans hK); clear hI hK))
      have lf := Im.flight_len (fun k => match k with | 0 => x | 1 => y | 2 => vx | _ => vy) 4
      have cf := fun X (hX : Wr b Bb Bp (bk ++ Im.bytesOf 1 owner) X) (hB : Box X S 90 (Gm.shotCells l).toArray) Bq hq => Lib.hid (layflight_w (fun k => match k with | 0 => x | 1 => y | 2 => vx | _ => vy) (fun j => k * 6 + 1 + j) S Bq 90 _ (bk ++ Im.bytesOf 1 owner) b Bb Bp X (fun k hk => by
        match k, hk with
        | 0, _ => exact (show -2147483648 ≤ x ∧ x ≤ 2147483647 by omega)
        | 1, _ => exact (show -2147483648 ≤ y ∧ y ≤ 2147483647 by omega)
        | 2, _ => exact (show -2147483648 ≤ vx ∧ vx ≤ 2147483647 by omega)
        | 3, _ => exact (show -2147483648 ≤ vy ∧ vy ≤ 2147483647 by omega)) hbB hX (by rw [List.length_append, Im.bytesOf_len]; omega) hB (fun k hk => by
        match k, hk with
        | 0, _ => exact s1
        | 1, _ => exact s2
        | 2, _ => exact s3
        | 3, _ => exact s4) (by decide) (by decide) (by decide) hq 4)
      refine Rp.wp_region_lex (by kernel_rfl) [] (by kernel_rfl) (· = w3.drew) (fun _ => True) (fun _ => True) rfl (fun W hW => ⟨trivial, trivial⟩) ?_
      repeat (first
        | (apply Rp.lex_free rfl rfl; focus (intro _; go_simp; first | done | rfl))
        | (apply Rp.lex_look rfl rfl rfl rfl; focus (intro W hW; clear hW; go_simp; first | done | rfl)))
      refine Rp.lex_make rfl (W' := w3.drew.alloc (.cells #[.pointer (some ⟨S, k * 6 + 1, none⟩), .pointer (some ⟨S, k * 6 + 2, none⟩), .pointer (some ⟨S, k * 6 + 3, none⟩), .pointer (some ⟨S, k * 6 + 4, none⟩)] 166)) (v := .slice (some ⟨w3.drew.heap.size, 0, none⟩) 4 4) ?_ ⟨trivial, trivial⟩ ?_
      focus (go_simp; first | done | rfl)
      refine Rp.lex_call (C' := fun Z => Wr b Bb Bp (bk ++ Im.bytesOf 1 owner ++ Im.flight (fun k => match k with | 0 => x | 1 => y | 2 => vx | _ => vy) 4) Z ∧ Wrote b Bb U Z ∧ Box Z S 90 (Gm.shotCells l).toArray) (v := .tuple #[]) (f := 136) (args := #[.func (.func 117) #[] #[.pointer (some ⟨Bp, 0, none⟩)], .slice (some ⟨w3.drew.heap.size, 0, none⟩) 4 4]) rfl ?_ ?_ ?_ ?_
      · intro Z hZ; clear hZ; go_simp; first | done | rfl | exact ⟨rfl, rfl⟩
      · intro Z hZ
        subst hZ
        have hW := (I3.out.call (one_below' w3)).alloc (.cells #[.pointer (some ⟨S, k * 6 + 1, none⟩), .pointer (some ⟨S, k * 6 + 2, none⟩), .pointer (some ⟨S, k * 6 + 3, none⟩), .pointer (some ⟨S, k * 6 + 4, none⟩)] 166)
        refine (cf _ hW (P3.out.drew.alloc _) w3.drew.heap.size (Box.made _ _ _)).out.mono ?_
        rintro e Z2 ⟨rfl, hI2, hK2⟩
        exact ⟨rfl, hI2, (K3.out.drew.alloc _).trans hK2, (P3.out.drew.alloc _).wrote' hK2 hW.isvar (by decide) (by decide)⟩
      · exact fun Z hZ => ⟨trivial, trivial⟩
      refine Rp.lex_end fun W4 hW4 => ?_
      obtain ⟨hI4, hK4, hP4⟩ := hW4
      have P4 := Lib.hid hP4
      have p4 := P4.out.cell
      have IV4 := Lib.hid hI4.isvar
      have K4 := Lib.hid hK4
      have c5 := Lib.hid (layint_w 1 1 rfl left S (k * 6 + 5) 90 _ _ b Bb Bp W4 (by decide) (by omega) hbB hI4 (by rw [List.length_append, List.length_append, Im.bytesOf_len, lf]; omega) hP4 s5 (by decide) (by decide) (by decide))
      rw [hwl] at c5
      generalize Im.flight (fun k => match k with | 0 => x | 1 => y | 2 => vx | _ => vy) 4 = FL at *
      clear hI4 hK4 hP4 cf lf hwl s0 s1 s2 s3 s4 s5 p3 p2 c3
      go_wp2_with (go_at_call 112; ((with_reducible refine (c5.out).mono ?_); rintro e w5 ⟨rfl, hI, hK⟩; have P5 := Lib.hid (P4.out.wrote' hK IV4.out (by decide) (by decide)); have p5 := P5.out.cell; have IV5 := Lib.hid hI.isvar; have I5 := Lib.hid hI; have K5 := Lib.hid (K4.out.trans hK); clear hI hK))
      go_roundw
      case rel => exact ⟨k + 1, by omega, by go_num, by rw [HSN.out]; exact I5.out, K5.out⟩
      case measure => simp [intOf]; omega
    · have hk8 : ¬ (k : Int) < n := by omega
      obtain rfl : k = n := by omega
      have ht : l.take k = l := List.take_of_length_le (by have := NL.out; omega)
      rw [ht] at hI
      have HI := Lib.hid hI
      have HK := Lib.hid hK
      clear hI hK
      go_wp2
      go_end0
      refine ⟨rfl, by rw [← List.append_assoc]; exact HI.out, BU.out.trans (HK.out.to (Nat.le_trans hbw BU.out.size)), KU.out.wrote HK.out IVU.out, S, PU.out.wrote' HK.out IVU.out h1 h2⟩
end Go.Proofs.YtkkhdaeihnbilaaGreat
namespace Ros
open Go

/-- A roster: of its seats those of slots 0 to 7 count. -/
structure R where
  version : Int
  peer : Nat → Int
  gen : Nat → Int

def pair (r : R) (k : Nat) : List Value := [.int .i64 (r.peer k), .int .i64 (r.gen k)]
def seatCells (r : R) : List Value := pair r 0 ++ (pair r 1 ++ (pair r 2 ++ (pair r 3 ++ (pair r 4 ++ (pair r 5 ++ (pair r 6 ++ pair r 7))))))
/-- Its 17 cells. -/
def cells (r : R) : Array Value := (Value.int .i64 r.version :: seatCells r).toArray
theorem cells_size (r : R) : (cells r).size = 17 := rfl
theorem cells_0 (r : R) : (cells r)[0]? = some (.int .i64 r.version) := rfl
theorem cells_peer (r : R) (k : Nat) (hk : k < 8) : (cells r)[1 + k * 2]? = some (.int .i64 (r.peer k)) := by
  match k, hk with
  | 0, _ | 1, _ | 2, _ | 3, _ | 4, _ | 5, _ | 6, _ | 7, _ => rfl
theorem cells_gen (r : R) (k : Nat) (hk : k < 8) : (cells r)[1 + k * 2 + 1]? = some (.int .i64 (r.gen k)) := by
  match k, hk with
  | 0, _ | 1, _ | 2, _ | 3, _ | 4, _ | 5, _ | 6, _ | 7, _ => rfl
def upd (f : Nat → Int) (i : Nat) (v : Int) : Nat → Int := fun j => if j = i then v else f j
theorem upd_same (f : Nat → Int) (i : Nat) (v : Int) : upd f i v i = v := by unfold upd; rw [if_pos rfl]
theorem upd_other (f : Nat → Int) {i j : Nat} (v : Int) (h : j ≠ i) : upd f i v j = f j := by unfold upd; rw [if_neg h]
theorem cells_setv (r : R) (v : Int) : (cells r).setIfInBounds 0 (.int .i64 v) = cells { r with version := v } := rfl
theorem cells_setp (r : R) (k : Nat) (hk : k < 8) (v : Int) : (cells r).setIfInBounds (1 + k * 2) (.int .i64 v) = cells { r with peer := upd r.peer k v } := by
  unfold cells
  rw [List.setIfInBounds_toArray]
  match k, hk with
  | 0, _ | 1, _ | 2, _ | 3, _ | 4, _ | 5, _ | 6, _ | 7, _ => rfl
theorem cells_setg (r : R) (k : Nat) (hk : k < 8) (v : Int) : (cells r).setIfInBounds (1 + k * 2 + 1) (.int .i64 v) = cells { r with gen := upd r.gen k v } := by
  unfold cells
  rw [List.setIfInBounds_toArray]
  match k, hk with
  | 0, _ | 1, _ | 2, _ | 3, _ | 4, _ | 5, _ | 6, _ | 7, _ => rfl
theorem cells_ints (r : R) : ∀ v ∈ (cells r).toList, ∃ n : Int, v = .int .i64 n := by
  intro v hv
  simp only [cells, seatCells, pair, List.mem_cons, List.mem_append, List.not_mem_nil, or_false] at hv
  rcases hv with rfl | hv
  · exact ⟨_, rfl⟩
  · rcases hv with hv | hv | hv | hv | hv | hv | hv | hv <;> (rcases hv with rfl | rfl <;> exact ⟨_, rfl⟩)
abbrev Sl := { k : Nat // k < 8 }
def slots : Nat → Nat → List Sl
  | 0, _ => []
  | n + 1, i => if h : i < 8 then ⟨i, h⟩ :: slots n (i + 1) else []
abbrev all8 : List Sl := slots 8 0
theorem slots_yes {n i : Nat} (h : i < 8) : slots (n + 1) i = ⟨i, h⟩ :: slots n (i + 1) := by
  show (if _ : _ then _ else _) = _; rw [dif_pos h]
theorem slots_len : ∀ n i, (slots n i).length ≤ n
  | 0, _ => Nat.le_refl _
  | n + 1, i => by
    unfold slots
    split
    · have := slots_len n (i + 1); simp; omega
    · simp
theorem all8_is : all8 = [⟨0, by omega⟩, ⟨1, by omega⟩, ⟨2, by omega⟩, ⟨3, by omega⟩, ⟨4, by omega⟩, ⟨5, by omega⟩, ⟨6, by omega⟩, ⟨7, by omega⟩] := rfl
theorem mem_all8 (k : Nat) (hk : k < 8) : (⟨k, hk⟩ : Sl) ∈ all8 := by
  rw [all8_is]
  match k, hk with
  | 0, _ | 1, _ | 2, _ | 3, _ | 4, _ | 5, _ | 6, _ | 7, _ => simp

def OkSeat (r : R) (k : Nat) : Prop := (0 ≤ r.gen k ∧ r.gen k ≤ 60000) ∧ (r.peer k = -1 ∨ ((0 ≤ r.peer k ∧ r.peer k < 12) ∧ 0 < r.gen k))
def Good (r : R) (l : List Sl) : Prop := (∀ y ∈ l, OkSeat r y.1) ∧ l.Pairwise (fun a b => r.peer a.1 = -1 ∨ r.peer a.1 ≠ r.peer b.1)
def Ok (r : R) : Prop := (0 ≤ r.version ∧ r.version ≤ 1073741824) ∧ Good r all8
instance (r : R) (k : Nat) : Decidable (OkSeat r k) := by unfold OkSeat; infer_instance
instance (r : R) (l : List Sl) : Decidable (Good r l) := by unfold Good; infer_instance
instance (r : R) : Decidable (Ok r) := by unfold Ok; infer_instance
def may (r : R) : Bool := decide (Ok r)

theorem good_nil (r : R) : Good r [] := ⟨by simp, .nil⟩
theorem good_snoc {r : R} {l : List Sl} {x : Sl} : Good r (l ++ [x]) ↔ Good r l ∧ OkSeat r x.1 ∧ ∀ y ∈ l, r.peer y.1 = -1 ∨ r.peer y.1 ≠ r.peer x.1 := by
  unfold Good
  rw [List.pairwise_append]
  simp only [List.mem_append, List.mem_singleton, List.pairwise_cons, List.not_mem_nil, false_imp_iff, implies_true, List.Pairwise.nil, and_true, true_and]
  constructor
  · rintro ⟨h1, h2, h3⟩
    exact ⟨⟨fun y hy => h1 y (.inl hy), h2⟩, h1 x (.inr rfl), fun y hy => h3 y hy x rfl⟩
  · rintro ⟨⟨h1, h2⟩, h3, h4⟩
    refine ⟨?_, h2, ?_⟩
    · rintro y (hy | rfl)
      · exact h1 y hy
      · exact h3
    · rintro y hy z rfl
      exact h4 y hy
theorem good_front {r : R} {l m : List Sl} (h : Good r (l ++ m)) : Good r l := by
  unfold Good at *
  exact ⟨fun y hy => h.1 y (by simp [hy]), (List.pairwise_append.1 h.2).1⟩
/-- Does one of them have the peer? -/
def hasF (r : R) (l : List Sl) (p : Nat) : Bool := l.any fun y => decide (r.peer y.1 = (p : Int))
theorem hasF_no {r : R} {l : List Sl} {x : Sl} (h : r.peer x.1 = -1) (p : Nat) : hasF r (l ++ [x]) p = hasF r l p := by
  unfold hasF
  rw [List.any_append]
  simp [h]
  try (intro hp; omega)
theorem hasF_yes {r : R} {l : List Sl} {x : Sl} {p : Nat} (h : r.peer x.1 = (p : Int)) (q : Nat) : hasF r (l ++ [x]) q = if q = p then true else hasF r l q := by
  unfold hasF
  rw [List.any_append]
  by_cases e : q = p
  · subst e; simp [h]
  · have e' : ¬ (p : Int) = (q : Int) := by omega
    simp [h, e, e']
theorem hasF_iff {r : R} {l : List Sl} {p : Nat} : hasF r l p = false ↔ ∀ y ∈ l, r.peer y.1 ≠ (p : Int) := by
  unfold hasF
  rw [List.any_eq_false]
  simp
/-- The twelve cells of 'has'. -/
def hasCells (f : Nat → Bool) : Array Value := #[.bool (f 0), .bool (f 1), .bool (f 2), .bool (f 3), .bool (f 4), .bool (f 5), .bool (f 6), .bool (f 7), .bool (f 8), .bool (f 9), .bool (f 10), .bool (f 11)]
theorem hasCells_at (f : Nat → Bool) (p : Nat) (hp : p < 12) : (hasCells f)[p]? = some (.bool (f p)) := by
  match p, hp with
  | 0, _ | 1, _ | 2, _ | 3, _ | 4, _ | 5, _ | 6, _ | 7, _ | 8, _ | 9, _ | 10, _ | 11, _ => rfl
theorem hasCells_set (f : Nat → Bool) (p : Nat) (hp : p < 12) : (hasCells f).setIfInBounds p (.bool true) = hasCells (fun q => if q = p then true else f q) := by
  match p, hp with
  | 0, _ | 1, _ | 2, _ | 3, _ | 4, _ | 5, _ | 6, _ | 7, _ | 8, _ | 9, _ | 10, _ | 11, _ => rfl
theorem Ok.seat {r : R} (h : Ok r) (k : Nat) (hk : k < 8) : OkSeat r k := h.2.1 ⟨k, hk⟩ (mem_all8 k hk)
theorem ok_iff {r : R} : Ok r ↔ (0 ≤ r.version ∧ r.version ≤ 1073741824) ∧ (∀ k, k < 8 → OkSeat r k) ∧ ∀ j k, j < k → k < 8 → r.peer j = -1 ∨ r.peer j ≠ r.peer k := by
  constructor
  · intro h
    refine ⟨h.1, h.seat, fun j k hjk hk => ?_⟩
    have h2 := h.2.2
    rw [all8_is] at h2
    rw [List.pairwise_iff_getElem] at h2
    have := h2 j k (by simp; omega) (by simp; omega) hjk
    have e : ∀ i (hi : i < 8), ([⟨0, by omega⟩, ⟨1, by omega⟩, ⟨2, by omega⟩, ⟨3, by omega⟩, ⟨4, by omega⟩, ⟨5, by omega⟩, ⟨6, by omega⟩, ⟨7, by omega⟩] : List Sl)[i] = ⟨i, hi⟩ := by
      intro i hi
      match i, hi with
      | 0, _ | 1, _ | 2, _ | 3, _ | 4, _ | 5, _ | 6, _ | 7, _ => rfl
    rw [e j (by omega), e k hk] at this
    exact this
  · rintro ⟨h1, h2, h3⟩
    refine ⟨h1, fun y _ => h2 y.1 y.2, ?_⟩
    rw [all8_is, List.pairwise_iff_getElem]
    intro i j hi hj hij
    have e : ∀ i (hi : i < 8), ([⟨0, by omega⟩, ⟨1, by omega⟩, ⟨2, by omega⟩, ⟨3, by omega⟩, ⟨4, by omega⟩, ⟨5, by omega⟩, ⟨6, by omega⟩, ⟨7, by omega⟩] : List Sl)[i] = ⟨i, hi⟩ := by
      intro i hi
      match i, hi with
      | 0, _ | 1, _ | 2, _ | 3, _ | 4, _ | 5, _ | 6, _ | 7, _ => rfl
    rw [e i (by simpa using hi), e j (by simpa using hj)]
    exact h3 i j hij (by simpa using hj)
theorem Ok.one {r : R} (h : Ok r) {j k : Nat} (hj : j < 8) (hk : k < 8) (he : r.peer j = r.peer k) (hn : r.peer j ≠ -1) : j = k := by
  have h3 := (ok_iff.1 h).2.2
  rcases Nat.lt_trichotomy j k with hl | hl | hl
  · rcases h3 j k hl hk with e | e
    · exact absurd e hn
    · exact absurd he e
  · exact hl
  · rcases h3 k j hl hj with e | e
    · exact absurd (he.trans e) hn
    · exact absurd he.symm e

def new : R := ⟨0, fun _ => -1, fun _ => 0⟩
def seatOf (r : R) (p : Int) : List Sl → Int
  | [] => -1
  | x :: l => if r.peer x.1 = p then x.1 else seatOf r p l
def of (r : R) (p : Int) : Int := if Ok r ∧ 0 ≤ p ∧ p < 12 then seatOf r p all8 else -1
theorem seatOf_none {r : R} {p : Int} : ∀ {l : List Sl}, (∀ y ∈ l, r.peer y.1 ≠ p) → seatOf r p l = -1
  | [], _ => rfl
  | x :: l, h => by
    unfold seatOf
    rw [if_neg (h x (by simp))]
    exact seatOf_none fun y hy => h y (by simp [hy])
theorem seatOf_first {r : R} {p : Int} {x : Sl} {m : List Sl} : ∀ {l : List Sl}, (∀ y ∈ l, r.peer y.1 ≠ p) → r.peer x.1 = p → seatOf r p (l ++ x :: m) = x.1
  | [], _, hx => by show (if _ then _ else _) = _; rw [if_pos hx]
  | z :: l, h, hx => by
    show (if _ then _ else _) = _
    rw [if_neg (h z (by simp))]
    exact seatOf_first (fun y hy => h y (by simp [hy])) hx
theorem seatOf_cases (r : R) (p : Int) : ∀ l : List Sl, (seatOf r p l = -1 ∧ ∀ y ∈ l, r.peer y.1 ≠ p) ∨ ∃ y ∈ l, seatOf r p l = (y.1 : Nat) ∧ r.peer y.1 = p
  | [] => .inl ⟨rfl, by simp⟩
  | x :: l => by
    unfold seatOf
    by_cases h : r.peer x.1 = p
    · rw [if_pos h]; exact .inr ⟨x, by simp, rfl, h⟩
    · rw [if_neg h]
      rcases seatOf_cases r p l with ⟨h1, h2⟩ | ⟨y, h1, h2, h3⟩
      · refine .inl ⟨h1, fun y hy => ?_⟩
        rcases List.mem_cons.1 hy with rfl | hy
        · exact h
        · exact h2 y hy
      · exact .inr ⟨y, by simp [h1], h2, h3⟩
theorem of_cases {r : R} {p : Int} (hr : Ok r) (h0 : 0 ≤ p) (h1 : p < 12) : (of r p = -1 ∧ ∀ k, k < 8 → r.peer k ≠ p) ∨ ∃ k : Nat, k < 8 ∧ of r p = k ∧ r.peer k = p := by
  unfold of
  rw [if_pos ⟨hr, h0, h1⟩]
  rcases seatOf_cases r p all8 with ⟨h, h'⟩ | ⟨y, _, h, h'⟩
  · exact .inl ⟨h, fun k hk => h' ⟨k, hk⟩ (mem_all8 k hk)⟩
  · exact .inr ⟨y.1, y.2, h, h'⟩
/-- The free slot. -/
def freeStep (r : R) (st : Int × Int) (x : Sl) : Int × Int := if r.peer x.1 = -1 ∧ r.gen x.1 < st.2 then (x.1, r.gen x.1) else st
def freeSt (r : R) (l : List Sl) : Int × Int := l.foldl (freeStep r) (-1, 60000)
def free (r : R) : Int := if Ok r then (freeSt r all8).1 else -1
/-- Who has a slot, by bits. -/
def maskStep (r : R) (m : Nat) (x : Sl) : Nat := if r.peer x.1 = -1 then m else m ||| 2 ^ x.1
def maskSt (r : R) (l : List Sl) : Nat := l.foldl (maskStep r) 0
def mask (r : R) : Nat := if Ok r then maskSt r all8 else 0

def MayTake (r : R) (slot peer : Int) : Prop := (((Ok r ∧ r.version < 1073741824) ∧ 0 ≤ slot ∧ slot < 8) ∧ (0 ≤ peer ∧ peer < 12) ∧ of r peer = -1) ∧ r.peer slot.toNat = -1 ∧ r.gen slot.toNat ≠ 60000
def take (r : R) (k : Nat) (peer : Int) : R := ⟨r.version + 1, upd r.peer k peer, upd r.gen k (r.gen k + 1)⟩
def MayGive (r : R) (slot : Int) : Prop := ((Ok r ∧ r.version < 1073741824) ∧ 0 ≤ slot ∧ slot < 8) ∧ r.peer slot.toNat ≠ -1
def give (r : R) (k : Nat) : R := ⟨r.version + 1, upd r.peer k (-1), r.gen⟩
instance (r : R) (s p : Int) : Decidable (MayTake r s p) := by unfold MayTake; infer_instance
instance (r : R) (s : Int) : Decidable (MayGive r s) := by unfold MayGive; infer_instance
end Ros
namespace Go.Proofs.YtkkhdaeihnbilaaGreat
open Go.RowKit Go.Shelf
set_option linter.unusedVariables false

/-- The 76 cells of a state whose shots are the slice s. -/
def Im.cells (g : Gm.G) (s : Value) (r : Ros.R) : Array Value := Gm.cells g s ++ Ros.cells r
theorem Im.cells_size (g : Gm.G) (s : Value) (r : Ros.R) : (Im.cells g s r).size = 76 := by unfold Im.cells; rw [Array.size_append, Gm.cells_size, Ros.cells_size]
theorem Im.cells_g (g : Gm.G) (s : Value) (r : Ros.R) (i : Nat) (hi : i < 59) : (Im.cells g s r)[i]? = (Gm.cells g s)[i]? := by
  unfold Im.cells; rw [Array.getElem?_append_left (by rw [Gm.cells_size]; exact hi)]
theorem Im.cells_r (g : Gm.G) (s : Value) (r : Ros.R) (i : Nat) : (Im.cells g s r)[59 + i]? = (Ros.cells r)[i]? := by
  unfold Im.cells; rw [Array.getElem?_append_right (by rw [Gm.cells_size]; omega), Gm.cells_size]; congr 1; omega
theorem Im.cells_ship (g : Gm.G) (s : Value) (r : Ros.R) (k j : Nat) (hk : k < 8) (hj : j < 7) : (Im.cells g s r)[2 + k * 7 + j]? = (g.ship k).cells[j]? :=
  (Im.cells_g g s r _ (by omega)).trans (Gm.cells_ship g s k j hk hj)
theorem Im.cells_peer (g : Gm.G) (s : Value) (r : Ros.R) (k : Nat) (hk : k < 8) : (Im.cells g s r)[60 + k * 2]? = some (.int .i64 (r.peer k)) := by
  rw [show 60 + k * 2 = 59 + (1 + k * 2) by omega, Im.cells_r]; exact Ros.cells_peer r k hk
theorem Im.cells_gen (g : Gm.G) (s : Value) (r : Ros.R) (k : Nat) (hk : k < 8) : (Im.cells g s r)[60 + k * 2 + 1]? = some (.int .i64 (r.gen k)) := by
  rw [show 60 + k * 2 + 1 = 59 + (1 + k * 2 + 1) by omega, Im.cells_r]; exact Ros.cells_gen r k hk
theorem Im.cells_shots (g : Gm.G) (s s' : Value) (r : Ros.R) : (Im.cells g s r).setIfInBounds 58 s' = Im.cells g s' r := by
  unfold Im.cells Gm.cells Ros.cells
  simp only [List.append_toArray, List.setIfInBounds_toArray]
  congr 1
def Im.ships (f : Nat → Gm.Ship) : Nat → List Int
  | 0 => []
  | k + 1 => Im.ships f k ++ Im.ship (f k)
theorem Im.ship_len (s : Gm.Ship) : (Im.ship s).length = if s.on = true then 22 else 1 := by
  unfold Im.ship
  split
  · rw [List.length_append, List.length_append, List.length_append, Im.bytesOf_len, Im.bytesOf_len, Im.bytesOf_len, Im.flight_len]
  · rfl
theorem Im.ship_le (s : Gm.Ship) : (Im.ship s).length ≤ 22 := by rw [Im.ship_len]; split <;> omega
theorem Im.ships_le (f : Nat → Gm.Ship) : ∀ k, (Im.ships f k).length ≤ 22 * k
  | 0 => Nat.le_refl _
  | k + 1 => by
    show (Im.ships f k ++ Im.ship (f k)).length ≤ _
    have := Im.ships_le f k
    have := Im.ship_le (f k)
    rw [List.length_append]; omega
def Im.seats (r : Ros.R) : Nat → List Int
  | 0 => []
  | k + 1 => Im.seats r k ++ (Im.bytesOf 1 (r.peer k + 1) ++ Im.bytesOf 2 (r.gen k))
theorem Im.seats_len (r : Ros.R) : ∀ k, (Im.seats r k).length = 3 * k
  | 0 => rfl
  | k + 1 => by
    show (Im.seats r k ++ _).length = _
    rw [List.length_append, List.length_append, Im.seats_len r k, Im.bytesOf_len, Im.bytesOf_len]; omega
/-- A state's bytes. -/
def Im.put (g : Gm.G) (r : Ros.R) : List Int :=
  Im.bytesOf 4 g.frame ++ (Im.bytesOf 8 g.dice ++ (Im.ships g.ship 8 ++ ((Im.bytesOf 1 g.shots.length ++ Im.shots g.shots) ++ (Im.bytesOf 4 r.version ++ Im.seats r 8))))

theorem layship_w (s : Gm.Ship) (P o : Nat) (t : TypeId) (cs : Array Value) (bs : List Int) (b Bb Bp : Nat) (w : World) (ok : Gm.okShip s) (hbB : b ≤ Bb) (h : Wr b Bb Bp bs w) (hl : bs.length + 22 ≤ 65536) (hP : Box w P t cs) (hc : ∀ j, j < 7 → cs[o + j]? = s.cells[j]?) (h1 : t ≠ 72) (h2 : t ≠ 5) (h3 : t ≠ 115) :
    Calls Tryz.prog 114 #[.func (.func 117) #[] #[.pointer (some ⟨Bp, 0, none⟩)], .pointer (some ⟨P, o, none⟩)] w fun e w' => e = .returned (.tuple #[]) ∧ Wr b Bb Bp (bs ++ Im.ship s) w' ∧ Wrote b Bb w w' := by
  obtain ⟨on, x, y, vx, vy, cool, score⟩ := s
  have s0 := hc 0 (by omega)
  have s1 := hc 1 (by omega)
  have s2 := hc 2 (by omega)
  have s3 := hc 3 (by omega)
  have s4 := hc 4 (by omega)
  have s5 := hc 5 (by omega)
  have s6 := hc 6 (by omega)
  simp only [Gm.Ship.cells, List.getElem?_cons_zero, List.getElem?_cons_succ, Nat.add_zero] at s0 s1 s2 s3 s4 s5 s6
  obtain ⟨w0, ⟨w2, w2'⟩, ⟨w3, w3'⟩, ⟨w4, w4'⟩, ⟨w5, w5'⟩, w6, w6', w7, w7'⟩ := ok
  dsimp only at w0 w2 w2' w3 w3' w4 w4' w5 w5' w6 w6' w7 w7'
  cases on
  · exact layship_off P o t cs bs b Bb Bp w hbB h (by omega) hP s0 h1 h2 h3
  · exact layship_on x y vx vy cool score P o t cs bs b Bb Bp w hbB h hl hP s0 s1 s2 s3 s4 s5 s6 (by omega) (by omega) (by omega) (by omega) ⟨w6, w6'⟩ ⟨w7, w7'⟩ h1 h2 h3

set_option maxRecDepth 100000 in
set_option maxHeartbeats 4000000 in
theorem laystate_w (g : Gm.G) (r : Ros.R) (n : Nat) (A : Option Addr) (c B : Nat) (bs : List Int) (b Bb Bp : Nat) (w : World) (hn : n = g.shots.length) (hg : Gm.ok g) (hd : 0 ≤ g.dice ∧ g.dice ≤ 18446744073709551615) (hr : Ros.Ok r) (hbB : b ≤ Bb) (hbP : b ≤ B) (hbw : b ≤ w.heap.size) (h : Wr b Bb Bp bs w) (hl : bs.length ≤ 64000) (hP : Box w B 35 (Im.cells g (.slice A n c) r))
    (hL : Lies w b 6 A n (Gm.shotCells g.shots)) :
    Calls Tryz.prog 74 #[.func (.func 117) #[] #[.pointer (some ⟨Bp, 0, none⟩)], .pointer (some ⟨B, 0, none⟩)] w fun e w' => e = .returned (.tuple #[]) ∧ Wr b Bb Bp (bs ++ Im.put g r) w' ∧ Below b w w' ∧ Kb B w w' := by
  have hw0 : IntKind.u64.wrap g.frame = g.frame := by rw [IntKind.wrap_u64]; have := hg.1; have := hg.2.1; omega
  have hw59 : IntKind.u64.wrap r.version = r.version := by rw [IntKind.wrap_u64]; have := hr.1; omega
  have e0 : (Im.cells g (.slice A n c) r)[0]? = some (.int .i64 g.frame) := (Im.cells_g _ _ _ 0 (by omega)).trans (Gm.cells_0 _ _)
  have e1 : (Im.cells g (.slice A n c) r)[1]? = some (.int .u64 g.dice) := (Im.cells_g _ _ _ 1 (by omega)).trans (Gm.cells_1 _ _)
  have c1 := Lib.hid (layint_w 4 4 rfl g.frame B 0 35 _ bs b Bb Bp w (by decide) (by have := hg.1; have := hg.2.1; omega) hbB h (by omega) hP e0 (by decide) (by decide) (by decide))
  rw [hw0] at c1
  have c2 := fun X (hX : Wr b Bb Bp (bs ++ Im.bytesOf 4 g.frame) X) (hB : Box X B 35 (Im.cells g (.slice A n c) r)) => Lib.hid (layu64_w 8 8 rfl g.dice B 1 35 _ _ b Bb Bp X (by decide) hd hbB hX (by rw [List.length_append, Im.bytesOf_len]; omega) hB e1 (by decide) (by decide) (by decide))
  have IV0 := Lib.hid h.isvar
  have P0 := Lib.hid hP
  have K0 := Lib.hid (Wrote.refl hbB w)
  have LL := Lib.hid hL
  have HG := Lib.hid hg
  have HR := Lib.hid hr
  have NL := Lib.hid hn
  have HV := Lib.hid hw59
  have ltP := hP.lt
  clear h hP hL hn hg hr hw0 hw59 e0 e1
  go_enter Tryz.func74, Tryz.ntmps74
  go_wp2_with (first | (go_at_call 112; ((with_reducible refine (c1.out).mono ?_); rintro e w1 ⟨rfl, hI, hK⟩; have P1 := Lib.hid (P0.out.wrote' hK IV0.out (by decide) (by decide)); have IV1 := Lib.hid hI.isvar; have I1 := Lib.hid hI; have K1 := Lib.hid (K0.out.trans hK); clear hI hK)) | (go_at_call 113; ((with_reducible refine ((c2 _ I1.out P1.out).out).mono ?_); rintro e w2 ⟨rfl, hI, hK⟩; have P2 := Lib.hid (P1.out.wrote' hK IV1.out (by decide) (by decide)); have IV2 := Lib.hid hI.isvar; have I2 := Lib.hid hI; have K2 := Lib.hid (K1.out.trans hK); clear hI hK)))
  go_loopw [18] (fun i wr => ∃ k : Nat, k ≤ 8 ∧ i = .int .i64 k ∧ Wr b Bb Bp (bs ++ Im.bytesOf 4 g.frame ++ Im.bytesOf 8 g.dice ++ Im.ships g.ship k) wr ∧ Wrote b Bb w wr) (fun i _ => 8 - (intOf i).toNat)
  case atStart => exact ⟨0, by omega, rfl, by simpa [Im.ships] using I2.out, K2.out⟩
  case round =>
    obtain ⟨k, hk, rfl, hI, hK⟩ := hrel
    clear I1 P1 IV1 K1 I2 P2 IV2 K2 c1 c2
    by_cases hlt : k < 8
    · have hk8 : (k : Int) < 8 := by omega
      have P3 := P0.out.wrote' hK IV0.out (by decide) (by decide)
      have hsl := Im.ships_le g.ship k
      have c3 := Lib.hid (layship_w (g.ship k) B (2 + k * 7) 35 _ _ b Bb Bp wr (HG.out.2.2.2.1 k hlt) hbB hI (by rw [List.length_append, List.length_append, List.length_append, Im.bytesOf_len, Im.bytesOf_len]; omega) P3 (fun j hj => Im.cells_ship g _ r k j hlt hj) (by decide) (by decide) (by decide))
      have HSN := Lib.hid (show bs ++ Im.bytesOf 4 g.frame ++ Im.bytesOf 8 g.dice ++ Im.ships g.ship k ++ Im.ship (g.ship k) = bs ++ Im.bytesOf 4 g.frame ++ Im.bytesOf 8 g.dice ++ Im.ships g.ship (k + 1) by simp [Im.ships])
      have HK := Lib.hid hK
      clear hI hK P3
      go_wp2_with (go_at_call 114; ((with_reducible refine (c3.out).mono ?_); rintro e w4 ⟨rfl, hI, hK⟩; have I4 := Lib.hid hI; have K4 := Lib.hid (HK.out.trans hK); clear hI hK))
      go_roundw
      case rel => exact ⟨k + 1, by omega, by go_num, by rw [← HSN.out]; exact I4.out, K4.out⟩
      case measure => simp [intOf]; omega
    · have hk8 : ¬ (k : Int) < 8 := by omega
      obtain rfl : k = 8 := by omega
      have P3 := P0.out.wrote' hK IV0.out (by decide) (by decide)
      have hsl := Im.ships_le g.ship 8
      have hn32 : g.shots.length ≤ 32 := HG.out.2.2.1
      have hshl := Im.shots_len g.shots
      have c5 := Lib.hid (layshots_w g.shots n A c B 35 (Im.cells g (.slice A n c) r) _ b Bb Bp wr NL.out (by have := NL.out; omega) HG.out.way.shots hbB hbP (Nat.le_trans hbw hK.size) hI (by rw [List.length_append, List.length_append, List.length_append, Im.bytesOf_len, Im.bytesOf_len]; omega) P3 ((Im.cells_g _ _ _ 58 (by omega)).trans (Gm.cells_58 _ _)) (LL.out.below (hK.to hbw)) (by decide) (by decide) (by decide) (by decide))
      have lens : (bs ++ Im.bytesOf 4 g.frame ++ Im.bytesOf 8 g.dice ++ Im.ships g.ship 8 ++ (Im.bytesOf 1 n ++ Im.shots g.shots)).length ≤ 65000 := by
        rw [List.length_append, List.length_append, List.length_append, List.length_append, List.length_append, Im.bytesOf_len, Im.bytesOf_len, Im.bytesOf_len, hshl]; omega
      have HN := Lib.hid (show bs ++ Im.put g r = bs ++ Im.bytesOf 4 g.frame ++ Im.bytesOf 8 g.dice ++ Im.ships g.ship 8 ++ (Im.bytesOf 1 n ++ Im.shots g.shots) ++ Im.bytesOf 4 r.version ++ Im.seats r 8 by rw [NL.out]; simp [Im.put])
      generalize hbk : bs ++ Im.bytesOf 4 g.frame ++ Im.bytesOf 8 g.dice ++ Im.ships g.ship 8 ++ (Im.bytesOf 1 n ++ Im.shots g.shots) = bk at *
      have B3 := Lib.hid (hK.to hbw)
      have Q3 := Lib.hid ((Kb.refl (B := B) w).wrote hK IV0.out)
      clear hI hK P3 hbk hshl hsl hn32 P0 K0 LL
      go_upto_region 8 with (go_at_call 115; ((with_reducible refine (c5.out).mono ?_); rintro e w6 ⟨rfl, hI6, hB6, hK6, S, hP6⟩; rw [Im.cells_shots] at hP6; have I6 := Lib.hid hI6; have P6 := Lib.hid hP6; have B6 := Lib.hid (B3.out.trans hB6); have Q6 := Lib.hid (Q3.out.trans hK6); clear hI6 hB6 hK6 hP6))
      have e59 : (Im.cells g (.slice (some ⟨S, 0, none⟩) n n) r)[59]? = some (.int .i64 r.version) := (Im.cells_r _ _ _ 0).trans (Ros.cells_0 _)
      have c7 := Lib.hid (layint_w 4 4 rfl r.version B 59 35 _ bk b Bb Bp w6 (by decide) (by have := HR.out.1; omega) hbB I6.out (by omega) P6.out e59 (by decide) (by decide) (by decide))
      rw [HV.out] at c7
      have IV6 := Lib.hid I6.out.isvar
      have K6 := Lib.hid (Wrote.refl hbB w6)
      clear e59 c5
      go_wp2_with (first | (go_at_call 112; ((with_reducible refine (c7.out).mono ?_); rintro e w7 ⟨rfl, hI, hK⟩; have P7 := Lib.hid (P6.out.wrote' hK IV6.out (by decide) (by decide)); have IV7 := Lib.hid hI.isvar; have I7 := Lib.hid hI; have K7 := Lib.hid (K6.out.trans hK); clear hI hK)))
      go_loopw [41] (fun i wx => ∃ k : Nat, k ≤ 8 ∧ i = .int .i64 k ∧ Wr b Bb Bp (bk ++ Im.bytesOf 4 r.version ++ Im.seats r k) wx ∧ Wrote b Bb w6 wx) (fun i _ => 8 - (intOf i).toNat)
      case atStart => exact ⟨0, by omega, rfl, by simpa [Im.seats] using I7.out, K7.out⟩
      case round =>
        obtain ⟨k, hk, rfl, hI, hK⟩ := hrel
        clear I7 P7 IV7 K7 c7
        by_cases hlt : k < 8
        · have hk8 : (k : Int) < 8 := by omega
          have P8 := P6.out.wrote' hK IV6.out (by decide) (by decide)
          have hsl := Im.seats_len r k
          have hs := HR.out.seat k hlt
          have c8 := Lib.hid (layseat_w (r.peer k) (r.gen k) B (60 + k * 2) 35 _ _ b Bb Bp wr ⟨by have := hs.2; omega, by have := hs.2; omega⟩ hs.1 hbB hI (by rw [List.length_append, List.length_append, Im.bytesOf_len]; omega) P8 (Im.cells_peer g _ r k hlt) (Im.cells_gen g _ r k hlt) (by decide) (by decide) (by decide))
          have HSN := Lib.hid (show bk ++ Im.bytesOf 4 r.version ++ Im.seats r k ++ (Im.bytesOf 1 (r.peer k + 1) ++ Im.bytesOf 2 (r.gen k)) = bk ++ Im.bytesOf 4 r.version ++ Im.seats r (k + 1) by simp [Im.seats])
          have HK := Lib.hid hK
          clear hI hK P8 hs hsl
          go_wp2_with (go_at_call 116; ((with_reducible refine (c8.out).mono ?_); rintro e w9 ⟨rfl, hI, hK⟩; have I9 := Lib.hid hI; have K9 := Lib.hid (HK.out.trans hK); clear hI hK))
          go_roundw
          case rel => exact ⟨k + 1, by omega, by go_num, by rw [← HSN.out]; exact I9.out, K9.out⟩
          case measure => simp [intOf]; omega
        · have hk8 : ¬ (k : Int) < 8 := by omega
          obtain rfl : k = 8 := by omega
          have HI := Lib.hid hI
          have HK := Lib.hid hK
          clear hI hK
          go_wp2
          go_end0
          exact ⟨rfl, by rw [HN.out]; exact HI.out, B6.out.trans (HK.out.to (Nat.le_trans hbw B6.out.size)), Q6.out.wrote HK.out IV6.out⟩
end Go.Proofs.YtkkhdaeihnbilaaGreat
namespace Go.Proofs.YtkkhdaeihnbilaaGreat
open Go.RowKit
set_option linter.unusedVariables false

theorem ret_i32 {a b : Int} (h : a = b) : Ending.returned (.int .i32 a) = .returned (.int .i32 b) := by rw [h]
theorem two_below (w : World) (o1 o2 : Obj) : Below w.heap.size w ((w.alloc o1).alloc o2) := ((Below.refl _ _).alloc (Nat.le_refl _) _).alloc (by simp) _

set_option maxHeartbeats 400000 in
theorem fixcut_any (v : Int) (h : -9223372036854775808 ≤ v) (h' : v ≤ 9223372036854775807) (w : World) :
    Calls Tryz.prog 150 #[.int .i64 v] w fun e w' => e = .returned (.int .i32 (Fx.cut v)) ∧ Below w.heap.size w w' := by
  have hmf : ∀ (fn : Fn) (first cap : Array Value) (w : World), (Instr.makeFunc fn first cap).run Tryz.prog w = .ok (.func fn first cap) w := fun _ _ _ _ => rfl
  go_enter Tryz.func150, Tryz.ntmps150
  go_wp2
  all_goals
    go_ret
    exact ⟨ret_i32 (by unfold Fx.cut; omega), two_below _ _ _⟩

set_option maxHeartbeats 400000 in
theorem clamp_any (a lo hi : Int) (wa : -2147483648 ≤ a ∧ a ≤ 2147483647) (wl : -2147483648 ≤ lo ∧ lo ≤ 2147483647) (wh : -2147483648 ≤ hi ∧ hi ≤ 2147483647) (w : World) :
    Calls Tryz.prog 121 #[.int .i32 a, .int .i32 lo, .int .i32 hi] w fun e w' => e = .returned (.int .i32 (Fx.clamp a lo hi)) ∧ Below w.heap.size w w' := by
  have hmf : ∀ (fn : Fn) (first cap : Array Value) (w : World), (Instr.makeFunc fn first cap).run Tryz.prog w = .ok (.func fn first cap) w := fun _ _ _ _ => rfl
  go_enter Tryz.func121, Tryz.ntmps121
  go_wp2
  all_goals
    go_ret
    exact ⟨ret_i32 (by unfold Fx.clamp; omega), two_below _ _ _⟩

set_option maxHeartbeats 400000 in
theorem fixadd_any (a b : Int) (wa : -2147483648 ≤ a ∧ a ≤ 2147483647) (wb : -2147483648 ≤ b ∧ b ≤ 2147483647) (w : World) :
    Calls Tryz.prog 141 #[.int .i32 a, .int .i32 b] w fun e w' => e = .returned (.int .i32 (Fx.cut (a + b))) ∧ Below w.heap.size w w' := by
  go_enter Tryz.func141, Tryz.ntmps141
  go_wp2_with fail
  refine (fixcut_any _ (by omega) (by omega) _).mono ?_
  rintro e w1 ⟨rfl, hb⟩
  go_wp2_with fail
  go_ret
  exact ⟨rfl, by assumption⟩

end Go.Proofs.YtkkhdaeihnbilaaGreat
