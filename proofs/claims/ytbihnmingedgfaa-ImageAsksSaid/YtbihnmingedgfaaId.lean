/-
The program's image: a flight, a seat, a ship are put.
-/
import Derived.Test.YtbihnmingedgfaaNl
import Derived.LoopTactic
namespace Go.Proofs.Ytbihnmingedgfaa
open Go.RowKit Go.Shelf
set_option linter.unusedVariables false

def Im.flight (x : Nat → Int) : Nat → List Int
  | 0 => []
  | k + 1 => Im.flight x k ++ Im.bytesOf 4 (IntKind.u64.wrap (x k))
theorem Im.flight_len (x : Nat → Int) : ∀ k, (Im.flight x k).length = 4 * k
  | 0 => rfl
  | k + 1 => by show (Im.flight x k ++ _).length = _; rw [List.length_append, Im.flight_len x k, Im.bytesOf_len]; omega

set_option maxRecDepth 100000 in
set_option maxHeartbeats 2000000 in
theorem layflight_w (x : Nat → Int) (p : Nat → Nat) (P Bq : Nat) (t : TypeId) (cs : Array Value) (bs : List Int) (b Bb Bp : Nat) (w : World) (hx : ∀ k, k < 4 → -2147483648 ≤ x k ∧ x k ≤ 2147483647) (hbB : b ≤ Bb) (h : Wr b Bb Bp bs w) (hl : bs.length + 16 ≤ 65536) (hP : Box w P t cs) (ho : ∀ k, k < 4 → cs[p k]? = some (.int .i32 (x k))) (h1 : t ≠ 54) (h2 : t ≠ 5) (h3 : t ≠ 120)
    (hq : Box w Bq 180 #[.pointer (some ⟨P, p 0, none⟩), .pointer (some ⟨P, p 1, none⟩), .pointer (some ⟨P, p 2, none⟩), .pointer (some ⟨P, p 3, none⟩)]) (c : Nat) :
    Calls Try.prog 153 #[.func (.func 129) #[] #[.pointer (some ⟨Bp, 0, none⟩)], .slice (some ⟨Bq, 0, none⟩) 4 c] w fun e w' => e = .returned (.tuple #[]) ∧ Wr b Bb Bp (bs ++ Im.flight x 4) w' ∧ Wrote b Bb w w' := by
  have HH := Lib.hid h
  have HP := Lib.hid hP
  have HQ := Lib.hid hq
  clear h hP hq
  go_enter Try.func153, Try.ntmps153
  go_wp2
  go_loopw [8] (fun i wr => ∃ k : Nat, k ≤ 4 ∧ i = .int .i64 k ∧ Wr b Bb Bp (bs ++ Im.flight x k) wr ∧ Wrote b Bb w wr) (fun i _ => 4 - (intOf i).toNat)
  case atStart => exact ⟨0, by omega, rfl, by simpa [Im.flight] using HH.out, Wrote.refl hbB w⟩
  case round =>
    obtain ⟨k, hk, rfl, hI, hK⟩ := hrel
    by_cases hlt : k < 4
    · have hk8 : (k : Int) < 4 := by omega
      have P1 := HP.out.wrote' hK HH.out.isvar h1 h2
      have Q1 := HQ.out.wrote' hK HH.out.isvar (by decide) (by decide)
      have qc := Q1.cell k
      have hqk : (#[.pointer (some ⟨P, p 0, none⟩), .pointer (some ⟨P, p 1, none⟩), .pointer (some ⟨P, p 2, none⟩), .pointer (some ⟨P, p 3, none⟩)] : Array Value)[k]? = some (.pointer (some ⟨P, p k, none⟩)) := by
        match k, hlt with
        | 0, _ | 1, _ | 2, _ | 3, _ => rfl
      rw [hqk] at qc
      have cl := Lib.hid (layi32_w 4 4 rfl (x k) P (p k) t cs (bs ++ Im.flight x k) b Bb Bp wr (by decide) (hx k hlt) hbB hI (by rw [List.length_append, Im.flight_len]; omega) P1 (ho k hlt) h1 h2 h3)
      rw [List.append_assoc, show Im.flight x k ++ Im.bytesOf 4 (IntKind.u64.wrap (x k)) = Im.flight x (k + 1) from rfl] at cl
      have HK := Lib.hid hK
      clear hI hK P1 Q1 hqk
      go_wp2_with (go_at_call 161; ((with_reducible refine (cl.out).mono ?_); rintro e w1 ⟨rfl, hI1, hK1⟩; have I1 := Lib.hid hI1; have K1 := Lib.hid (HK.out.trans hK1); clear hI1 hK1 qc))
      go_roundw
      case rel => exact ⟨k + 1, by omega, by go_num, I1.out, K1.out⟩
      case measure => simp [intOf]; omega
    · have hk8 : ¬ (k : Int) < 4 := by omega
      obtain rfl : k = 4 := by omega
      have HI := Lib.hid hI
      have HK := Lib.hid hK
      clear hI hK
      go_wp2
      go_end0
      exact ⟨rfl, HI.out, HK.out⟩

set_option maxRecDepth 100000 in
set_option maxHeartbeats 2000000 in
theorem layseat_w (pe g : Int) (P o : Nat) (t : TypeId) (cs : Array Value) (bs : List Int) (b Bb Bp : Nat) (w : World) (hpe : -1 ≤ pe ∧ pe ≤ 60000) (hg : 0 ≤ g ∧ g ≤ 60000) (hbB : b ≤ Bb) (h : Wr b Bb Bp bs w) (hl : bs.length + 3 ≤ 65536) (hP : Box w P t cs) (ho : cs[o]? = some (.int .i64 pe)) (ho1 : cs[o + 1]? = some (.int .i64 g)) (h1 : t ≠ 54) (h2 : t ≠ 5) (h3 : t ≠ 120) :
    Calls Try.prog 128 #[.func (.func 129) #[] #[.pointer (some ⟨Bp, 0, none⟩)], .pointer (some ⟨P, o, none⟩)] w fun e w' => e = .returned (.tuple #[]) ∧ Wr b Bb Bp (bs ++ (Im.bytesOf 1 (pe + 1) ++ Im.bytesOf 2 g)) w' ∧ Wrote b Bb w w' := by
  have hw1 : IntKind.i64.wrap (pe + 1) = pe + 1 := by rw [IntKind.wrap_i64]; omega
  have hw2 : IntKind.u64.wrap (pe + 1) = pe + 1 := by rw [IntKind.wrap_u64]; omega
  have hw3 : IntKind.u64.wrap g = g := by rw [IntKind.wrap_u64]; omega
  have hw4 : IntKind.i64.wrap (pe + 1 - 1) = pe := by rw [IntKind.wrap_i64]; omega
  have k0 := hP.cell o
  rw [ho] at k0
  have HP := Lib.hid hP
  have HL := Lib.hid (Box.made w 3 #[.int .i64 (pe + 1)])
  have HPA := Lib.hid (hP.alloc (.cells #[.int .i64 (pe + 1)] 3))
  have HA := Lib.hid (h.alloc (.cells #[.int .i64 (pe + 1)] 3))
  have WA := Lib.hid ((Wrote.refl hbB w).alloc (.cells #[.int .i64 (pe + 1)] 3))
  have c1 := Lib.hid (layint_w 1 1 rfl (pe + 1) w.heap.size 0 3 #[.int .i64 (pe + 1)] bs b Bb Bp _ (by decide) (by omega) hbB HA.out (by omega) HL.out rfl (by decide) (by decide) (by decide))
  have c2 := fun X (hX : Wr b Bb Bp (bs ++ Im.bytesOf 1 (pe + 1)) X) (hB : Box X P t cs) => Lib.hid (layint_w 2 2 rfl g P (o + 1) t cs (bs ++ Im.bytesOf 1 (pe + 1)) b Bb Bp X (by decide) (by omega) hbB hX (by rw [List.length_append, Im.bytesOf_len]; omega) hB ho1 h1 h2 h3)
  rw [hw2] at c1
  rw [hw3] at c2
  have hvar := Lib.hid HA.out.isvar
  have HO := Lib.hid ho
  have ltP := hP.lt
  clear h hP ho ho1 hw2 hw3
  go_enter Try.func128, Try.ntmps128
  go_upto_region 3 with (go_at_call 124; ((with_reducible refine (c1.out).mono ?_); rintro e w1 ⟨rfl, hI1, hK1⟩; have L1 := HL.out.wrote' hK1 hvar.out (by decide) (by decide); have l1 := L1.cell 0; have P1 := Lib.hid (HPA.out.wrote' hK1 hvar.out h1 h2); have p1 := P1.out.cell o; rw [HO.out] at p1; have f1 := P1.out.free o; have I1 := Lib.hid hI1; have K1 := Lib.hid (WA.out.trans hK1); clear hI1 hK1 L1 k0))
  obtain ⟨U, hU⟩ : ∃ U, U = w1.setCell ⟨P, o, none⟩ (.int .i64 pe) := ⟨_, rfl⟩
  have IU : Wr b Bb Bp (bs ++ Im.bytesOf 1 (pe + 1)) U := by rw [hU]; exact I1.out.off (p := ⟨P, o, none⟩) P1.out h3 h1 h2 _
  have KU : Wrote b Bb w U := by rw [hU]; exact K1.out.noop P1.out HO.out
  have PU : Box U P t cs := ⟨by rw [hU, setCell_noop P1.out HO.out]; exact P1.out.is⟩
  rw [← hU]
  have c2 := c2 U IU PU
  have KU := Lib.hid KU
  clear hU IU PU I1 K1 P1 p1 f1 l1
  go_wp2_with (go_at_call 124; ((with_reducible refine (c2.out).mono ?_); rintro e w2 ⟨rfl, hI2, hK2⟩; have I2 := Lib.hid hI2; have K2 := Lib.hid (KU.out.trans hK2); clear hI2 hK2))
  go_end0
  exact ⟨rfl, by rw [← List.append_assoc]; exact I2.out, K2.out⟩
end Go.Proofs.Ytbihnmingedgfaa
