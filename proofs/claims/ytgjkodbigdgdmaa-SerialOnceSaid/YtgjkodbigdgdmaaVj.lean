/-
SerialNotes: the walk.
-/
import Derived.Test.YtgjkodbigdgdmaaVh
import Derived.Test.YtgjkodbigdgdmaaOp
import Derived.LoopTactic
namespace Go.Proofs.Ytgjkodbigdgdmaa
open Go.RowKit
set_option linter.unusedVariables false

theorem ints_at {w : World} {B n : Nat} {ad : Addr} {l : List Int} {k : IntKind} (h : Lies w B 1 (some ad) n (l.flatMap fun x => [.int k x])) (hn : n = l.length) (f : Nat) (hf : f < l.length) : w.cell? (ad.add f) = some (.int k (l.getD f 0)) := by
  refine h.cell ad rfl (by omega) f _ ?_
  have := flat_at (cells := fun x : Int => [Value.int k x]) (c := 1) (fun _ => rfl) l f 0 hf (by omega)
  rw [Nat.mul_one, Nat.add_zero] at this
  rw [this]
  simp [hf]

/-- What a round finds. -/
structure Pair (w0 : World) (B1 B2 : Nat) (h : Sr.H) (w : World) : Prop where
  prog : Box w B1 48 h.cells
  ref : Box w B2 35 h.rcells
  kept : Below w0.heap.size w0 w
section
variable {w0 w w' : World} {B1 B2 : Nat} {h h' : Sr.H}
theorem Pair.below (p : Pair w0 B1 B2 h w) (hb : Below w.heap.size w w') : Pair w0 B1 B2 h w' := ⟨p.prog.below hb p.prog.lt, p.ref.below hb p.ref.lt, p.kept.trans (hb.mono p.kept.size)⟩
end
/-- Between the two: the program has noted it. -/
structure Half (w0 : World) (B1 B2 : Nat) (h h' : Sr.H) (w : World) : Prop where
  prog : Box w B1 48 h'.cells
  ref : Box w B2 35 h.rcells
  kept : Below w0.heap.size w0 w
theorem Pair.half {w0 w w' : World} {B1 B2 : Nat} {h h' : Sr.H} (p : Pair w0 B1 B2 h w) (hne : B2 ≠ B1) (h0 : w0.heap.size ≤ B1) (hb : Box w' B1 48 h'.cells) (ho : Only B1 w w') : Half w0 B1 B2 h h' w' :=
  ⟨hb, ho.box p.ref hne, ho.kept p.kept h0⟩
theorem Half.full {w0 w w' : World} {B1 B2 : Nat} {h h' : Sr.H} (p : Half w0 B1 B2 h h' w) (hne : B1 ≠ B2) (h0 : w0.heap.size ≤ B2) (hb : Box w' B2 35 h'.rcells) (ho : Only B2 w w') : Pair w0 B1 B2 h' w' :=
  ⟨ho.box p.prog hne, hb, ho.kept p.kept h0⟩

set_option maxRecDepth 100000 in
set_option maxHeartbeats 2000000 in
theorem notes11_main (f : Int) (hf : 0 ≤ f ∧ f ≤ 65535) (A : Option Addr) (c n : Nat) (l : List Int) (w : World) (hn : n = l.length) (hnm : n ≤ maxLen) (hL : Lies w w.heap.size 1 A n (l.flatMap fun x => [.int .i64 x])) :
    Calls Try.prog 4 #[.int .u16 f, .slice A n c] w fun e w' => e = .returned (.bool true) ∧ Kept w w' := by
  have cn := fun X => Lib.hid (sernew_any X)
  have c0 := fun X => Lib.hid (told11_any X)
  have wu : ∀ x, IntKind.u16.wrap x = x % 65536 := IntKind.wrap_u16
  have HL := Lib.hid hL
  have NL := Lib.hid hn
  clear hL hn
  unfold maxLen at hnm
  by_cases hn200 : n ≤ 200
  · have hn2 : ¬ (200 : Int) < n := by omega
    go_enter Try.func4, Try.ntmps4
    go_wp2_with ((go_at_call 15; ((with_reducible refine ((cn _).out).mono ?_); rintro e w0 ⟨rfl, rfl⟩; have HB0 := Lib.hid (Box.made w 48 Sr.none.cells); have HK0 := Lib.hid (one_below w (.cells Sr.none.cells 48)))))
    go_loopw [7, 8, 9, 10, 11, 12] (fun x i a b c d wr => ∃ (k : Nat) (X : Int) (h : Sr.H), k ≤ n ∧ i = .int .i64 k ∧ x = .int .u16 X ∧ (0 ≤ X ∧ X ≤ 65535) ∧ h.Ok ∧ Pair w w.heap.size (w.heap.size + 1) h wr) (fun _ i _ _ _ _ _ => n - (intOf i).toNat)
    case atStart =>
      refine ⟨0, f, Sr.none, Nat.zero_le _, rfl, rfl, hf, Sr.none_ok, HB0.out.alloc _, ?_, HK0.out.alloc HK0.out.size _⟩
      exact Box.made_at (n := w.heap.size + 1) _ 35 Sr.none.rcells (by simp)
    case round =>
      obtain ⟨k, X, h, hk, rfl, rfl, hX, ho, hP⟩ := hrel
      clear HB0 HK0 cn
      have HP := Lib.hid hP
      have HO := Lib.hid ho
      clear hP ho
      by_cases hlt : k < n
      · have hkn : (k : Int) < n := by omega
        obtain ⟨ad, rfl, hadl⟩ := HL.out.start (by omega)
        have nb := NL.out
        have q0 := ints_at (HL.out.below HP.out.kept) nb k (by omega)
        clear nb
        generalize l.getD k 0 = z at q0
        have hY : 0 ≤ (X + z) % 65536 ∧ (X + z) % 65536 ≤ 65535 := by omega
        have n1 := Lib.hid (note_any h HO.out ((X + z) % 65536) w.heap.size wr HP.out.prog)
        have n2 := fun X2 hX2 => Lib.hid (refnote_any h HO.out ((X + z) % 65536) hY (w.heap.size + 1) X2 hX2)
        have HO2 := Lib.hid (Sr.note_ok HO.out hY)
        generalize hh2 : Sr.note h ((X + z) % 65536) = h2 at *
        clear hh2
        generalize Sr.fresh h ((X + z) % 65536) = v at *
        have l1 := fun X2 hX2 => Lib.hid (serlast_any h2 w.heap.size X2 hX2)
        have l2 := fun X2 hX2 => Lib.hid (reflast_any h2 HO2.out (w.heap.size + 1) X2 hX2)
        have ne1 : w.heap.size + 1 ≠ w.heap.size := by omega
        have ne2 : w.heap.size ≠ w.heap.size + 1 := by omega
        have le2 : w.heap.size ≤ w.heap.size + 1 := by omega
        have N1 := Lib.hid ne1
        have N2 := Lib.hid ne2
        have E2 := Lib.hid le2
        clear ne1 ne2 le2
        go_upto_region 14 with (first | (go_at_call 16; ((with_reducible refine (n1.out).mono ?_); rintro e w2 ⟨rfl, hb, ho⟩; have HH := Lib.hid (HP.out.half N1.out (Nat.le_refl _) hb ho); clear hb ho)) | (go_at_call 17; ((with_reducible refine ((n2 _ HH.out.ref).out).mono ?_); rintro e w3 ⟨rfl, hb, ho⟩; have HQ := Lib.hid (HH.out.full N2.out E2.out hb ho); clear hb ho)))
        clear n1 n2 q0 hlt
        go_wp2_with (first | (go_at_call 18; ((with_reducible refine ((l1 _ HQ.out.prog).out).mono ?_); rintro e w4 ⟨rfl, hb⟩; have HQ4 := Lib.hid (HQ.out.below hb); clear hb)) | (go_at_call 19; ((with_reducible refine ((l2 _ HQ4.out.ref).out).mono ?_); rintro e w5 ⟨rfl, rfl⟩)))
        go_roundw
        case rel => exact ⟨k + 1, _, h2, by omega, by go_num, rfl, hY, HO2.out, HQ4.out⟩
        case measure => simp [intOf]; omega
      · obtain rfl : k = n := by omega
        have K3 := Lib.hid HP.out.kept
        go_wp2_with ((go_at_call 9; ((with_reducible refine (c0 _).out.mono ?_); rintro e w4 ⟨rfl, hb⟩; have HK4 := Lib.hid (K3.out.trans (hb.mono K3.out.size)); clear hb)))
        go_ret
        exact ⟨rfl, HK4.out⟩
  · have hn2 : (200 : Int) < n := by omega
    go_enter Try.func4, Try.ntmps4
    go_wp2_with (first | (go_at_call 15; ((with_reducible refine ((cn _).out).mono ?_); rintro e w0 ⟨rfl, rfl⟩; have HB0 := Lib.hid (Box.made w 48 Sr.none.cells); have HK0 := Lib.hid (one_below w (.cells Sr.none.cells 48)))) | (go_at_call 9; ((with_reducible refine (c0 _).out.mono ?_); rintro e w4 ⟨rfl, hb⟩; have HK4 := Lib.hid (HK0.out.trans (hb.mono HK0.out.size)); clear hb)))
    go_ret
    exact ⟨rfl, HK4.out⟩
end Go.Proofs.Ytgjkodbigdgdmaa
