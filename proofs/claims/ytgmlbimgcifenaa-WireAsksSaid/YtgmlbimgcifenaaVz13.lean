/-
Several texts in one: Zs Zu Zt Zw.
-/
import Derived.Test.YtgmlbimgcifenaaVz12
set_option maxRecDepth 100000
set_option maxHeartbeats 8000000
set_option linter.unusedVariables false
set_option linter.unusedSimpArgs false
namespace Ms
open Go
def decParts (q : M × List Int) : Option (M × List Int) := (rd_slot q).bind fun q => (rd_gen q).bind fun q => (rd_frame q).bind fun q => (rd_code q).bind fun q => (rd_n q).bind fun q => (rd_of q).bind fun q => (rd_bits q).bind fun q => (rd_sum q).bind fun q => (rdIns q).bind fun q => (rdLog q).bind fun q => rdData q
def start (k f s a n : Int) : M := ⟨k, f, s, a, n, 0, 0, 0, 0, 0, 0, 0, 0, [], [], []⟩
def decMsg (bs : List Int) : Option (M × List Int) := (Im.rdn 1 bs).bind fun k => (Im.rdn 1 k.2).bind fun f => (Im.rdn 2 f.2).bind fun s => (Im.rdn 2 s.2).bind fun a => (Im.rdn 4 a.2).bind fun n => if isKind k.1 then decParts (start k.1 f.1 s.1 a.1 n.1, n.2) else none
end Ms
namespace Go.Proofs.Ytgmlbimgcifenaa
open Go.RowKit Go.Shelf
def GotM (D : Option (Ms.M × List Int)) (b Bb Bp P : Nat) (X : World) (e : Ending) (w' : World) : Prop :=
  (∃ q' rest, D = some (Ms.plain q'.m, rest) ∧ e = .returned (.tuple #[]) ∧ Im.IsBytes rest ∧ Rd b Bb Bp rest w' ∧ Box w' P 29 q'.cells ∧ RI q' w' ∧ RL q' w' ∧ RD q' w' ∧ Below b X w' ∧ Kb P X w') ∨
  (D = none ∧ Pan e ∧ Below b X w' ∧ Kb P X w' ∧ ∃ cs', Box w' P 29 cs' ∧ cs'.size = 16)
theorem layparts_r (q : Ms.S) (P : Nat) (bs : List Int) (b Bb Bp : Nat) (w : World) (hBy : Im.IsBytes bs) (hbB : b ≤ Bb) (hbP : b ≤ P) (hbw : b ≤ w.heap.size) (ni : Ms.NI q) (nl : Ms.NL q) (nd : Ms.ND q) (h : Rd b Bb Bp bs w) (hP : Box w P 29 q.cells) :
    Calls Try.prog 53 #[.func (.func 60) #[] #[.pointer (some ⟨Bp, 0, none⟩)], .int .i64 (Ms.own q.m.kind), .pointer (some ⟨P, 0, none⟩)] w (GotM (Ms.decParts (Ms.plain q.m, bs)) b Bb Bp P w) := by
  have hmf : ∀ (fn : Fn) (first cap : Array Value) (w : World), (Instr.makeFunc fn first cap).run Try.prog w = .ok (.func fn first cap) w := fun _ _ _ _ => rfl
  obtain ⟨W0, hW0⟩ : ∃ W0, W0 = ((w.alloc (.cells #[.func (.func 60) #[] #[.pointer (some ⟨Bp, 0, none⟩)]] 66)).alloc (.cells #[.int .i64 (Ms.own q.m.kind)] 72)).alloc (.cells #[.pointer (some ⟨P, 0, none⟩)] 69) := ⟨_, rfl⟩
  have BB : Below w.heap.size w W0 := by rw [hW0]; exact (((Below.refl w.heap.size w).alloc (Nat.le_refl _) _).alloc (by simp) _).alloc (by simp <;> omega) _
  have S0 := qh (show Rs b P w.heap.size (w.heap.size + 1 + 1) (w.heap.size + 1) q (.func (.func 60) #[] #[.pointer (some ⟨Bp, 0, none⟩)]) W0 from ⟨hP.below BB hP.lt, by rw [hW0]; exact ((Box.made w _ _).alloc _).alloc _, by rw [hW0]; exact Box.made_at _ _ _ (by simp), by rw [hW0]; exact (Box.made_at (n := w.heap.size + 1) (w.alloc _) _ _ (by simp)).alloc _, Nat.le_trans hbw BB.size, .inl ni, .inl nl⟩)
  have I0 := qh (h.call BB hbw)
  have D0 := qh (BB.mono hbw)
  have K0 := qh ((Kb.refl (B := P) w).call BB)
  have Y0 := qh hBy
  have E0 := qh ni
  have F0 := qh nl
  have G0 := qh nd
  have HD := qh (show Ms.decParts (Ms.plain q.m, bs) = (Ms.rd_slot (Ms.plain q.m, bs)).bind fun q => (Ms.rd_gen q).bind fun q => (Ms.rd_frame q).bind fun q => (Ms.rd_code q).bind fun q => (Ms.rd_n q).bind fun q => (Ms.rd_of q).bind fun q => (Ms.rd_bits q).bind fun q => (Ms.rd_sum q).bind fun q => (Ms.rdIns q).bind fun q => (Ms.rdLog q).bind fun q => Ms.rdData q from rfl)
  have c1 := fun (q : Ms.S) X bs hy hI hS => qh (rs_slot q P w.heap.size (w.heap.size + 1 + 1) (w.heap.size + 1) bs b Bb Bp X hy hbB hbP hI hS)
  have c2 := fun (q : Ms.S) X bs hy hI hS => qh (rs_gen q P w.heap.size (w.heap.size + 1 + 1) (w.heap.size + 1) bs b Bb Bp X hy hbB hbP hI hS)
  have c3 := fun (q : Ms.S) X bs hy hI hS => qh (rs_frame q P w.heap.size (w.heap.size + 1 + 1) (w.heap.size + 1) bs b Bb Bp X hy hbB hbP hI hS)
  have c4 := fun (q : Ms.S) X bs hy hI hS => qh (rs_code q P w.heap.size (w.heap.size + 1 + 1) (w.heap.size + 1) bs b Bb Bp X hy hbB hbP hI hS)
  have c5 := fun (q : Ms.S) X bs hy hI hS => qh (rs_n q P w.heap.size (w.heap.size + 1 + 1) (w.heap.size + 1) bs b Bb Bp X hy hbB hbP hI hS)
  have c6 := fun (q : Ms.S) X bs hy hI hS => qh (rs_of q P w.heap.size (w.heap.size + 1 + 1) (w.heap.size + 1) bs b Bb Bp X hy hbB hbP hI hS)
  have c7 := fun (q : Ms.S) X bs hy hI hS => qh (rs_bits q P w.heap.size (w.heap.size + 1 + 1) (w.heap.size + 1) bs b Bb Bp X hy hbB hbP hI hS)
  have c8 := fun (q : Ms.S) X bs hy hI hS => qh (rs_sum q P w.heap.size (w.heap.size + 1 + 1) (w.heap.size + 1) bs b Bb Bp X hy hbB hbP hI hS)
  have c9 := fun (q : Ms.S) X bs hy hN hI hS => qh (rs_ins q P w.heap.size (w.heap.size + 1 + 1) (w.heap.size + 1) bs b Bb Bp X hy hbB hbP hN hI hS)
  have c10 := fun (q : Ms.S) X bs hy hN hI hS => qh (rs_log q P w.heap.size (w.heap.size + 1 + 1) (w.heap.size + 1) bs b Bb Bp X hy hbB hbP hN hI hS)
  have c11 := fun (q : Ms.S) X bs hy hN hI hS => qh (rs_data q P w.heap.size (w.heap.size + 1 + 1) (w.heap.size + 1) bs b Bb Bp X hy hbB hbP hN hI hS)
  have HW0 := qh hW0.symm
  have ltP := hP.lt
  clear h hP hW0 BB hBy ni nl nd
  go_enter Try.func53, Try.ntmps53
  go_upto_region 2 with fail
  rw [HW0.out]
  go_wp2_with (go_at_call 66; first | ((with_reducible refine ((c1 q _ bs Y0.out I0.out S0.out).out).mono ?_); rintro e w1 (⟨q1, r1, hr, rfl, hy, hI, hS, hkd, hB, hK, ⟨n1, n2, n3⟩⟩ | ⟨hn, ⟨ss, rfl⟩, hB, hK, hC⟩); (all_goals first | (have R1 := qh hr; have Y1 := qh hy; have I1 := qh hI; have S1 := qh hS; have D1 := qh (D0.out.trans hB); have K1 := qh (K0.out.trans hK); have E1 := qh (n1 E0.out); have F1 := qh (n2 F0.out); have G1 := qh (n3 G0.out); clear hr hy hI hS hB hK n1 n2 n3 hkd) | (have N1 := qh hn; have D1 := qh (D0.out.trans hB); have K1 := qh (K0.out.trans hK); have B1 := qh hC; clear hn hB hK hC))) | ((with_reducible refine ((c2 q1 _ r1 Y1.out I1.out S1.out).out).mono ?_); rintro e w2 (⟨q2, r2, hr, rfl, hy, hI, hS, hkd, hB, hK, ⟨n1, n2, n3⟩⟩ | ⟨hn, ⟨ss, rfl⟩, hB, hK, hC⟩); (all_goals first | (have R2 := qh hr; have Y2 := qh hy; have I2 := qh hI; have S2 := qh hS; have D2 := qh (D1.out.trans hB); have K2 := qh (K1.out.trans hK); have E2 := qh (n1 E1.out); have F2 := qh (n2 F1.out); have G2 := qh (n3 G1.out); clear hr hy hI hS hB hK n1 n2 n3 hkd) | (have N2 := qh hn; have D2 := qh (D1.out.trans hB); have K2 := qh (K1.out.trans hK); have B2 := qh hC; clear hn hB hK hC))) | ((with_reducible refine ((c3 q2 _ r2 Y2.out I2.out S2.out).out).mono ?_); rintro e w3 (⟨q3, r3, hr, rfl, hy, hI, hS, hkd, hB, hK, ⟨n1, n2, n3⟩⟩ | ⟨hn, ⟨ss, rfl⟩, hB, hK, hC⟩); (all_goals first | (have R3 := qh hr; have Y3 := qh hy; have I3 := qh hI; have S3 := qh hS; have D3 := qh (D2.out.trans hB); have K3 := qh (K2.out.trans hK); have E3 := qh (n1 E2.out); have F3 := qh (n2 F2.out); have G3 := qh (n3 G2.out); clear hr hy hI hS hB hK n1 n2 n3 hkd) | (have N3 := qh hn; have D3 := qh (D2.out.trans hB); have K3 := qh (K2.out.trans hK); have B3 := qh hC; clear hn hB hK hC))) | ((with_reducible refine ((c4 q3 _ r3 Y3.out I3.out S3.out).out).mono ?_); rintro e w4 (⟨q4, r4, hr, rfl, hy, hI, hS, hkd, hB, hK, ⟨n1, n2, n3⟩⟩ | ⟨hn, ⟨ss, rfl⟩, hB, hK, hC⟩); (all_goals first | (have R4 := qh hr; have Y4 := qh hy; have I4 := qh hI; have S4 := qh hS; have D4 := qh (D3.out.trans hB); have K4 := qh (K3.out.trans hK); have E4 := qh (n1 E3.out); have F4 := qh (n2 F3.out); have G4 := qh (n3 G3.out); clear hr hy hI hS hB hK n1 n2 n3 hkd) | (have N4 := qh hn; have D4 := qh (D3.out.trans hB); have K4 := qh (K3.out.trans hK); have B4 := qh hC; clear hn hB hK hC))) | ((with_reducible refine ((c5 q4 _ r4 Y4.out I4.out S4.out).out).mono ?_); rintro e w5 (⟨q5, r5, hr, rfl, hy, hI, hS, hkd, hB, hK, ⟨n1, n2, n3⟩⟩ | ⟨hn, ⟨ss, rfl⟩, hB, hK, hC⟩); (all_goals first | (have R5 := qh hr; have Y5 := qh hy; have I5 := qh hI; have S5 := qh hS; have D5 := qh (D4.out.trans hB); have K5 := qh (K4.out.trans hK); have E5 := qh (n1 E4.out); have F5 := qh (n2 F4.out); have G5 := qh (n3 G4.out); clear hr hy hI hS hB hK n1 n2 n3 hkd) | (have N5 := qh hn; have D5 := qh (D4.out.trans hB); have K5 := qh (K4.out.trans hK); have B5 := qh hC; clear hn hB hK hC))) | ((with_reducible refine ((c6 q5 _ r5 Y5.out I5.out S5.out).out).mono ?_); rintro e w6 (⟨q6, r6, hr, rfl, hy, hI, hS, hkd, hB, hK, ⟨n1, n2, n3⟩⟩ | ⟨hn, ⟨ss, rfl⟩, hB, hK, hC⟩); (all_goals first | (have R6 := qh hr; have Y6 := qh hy; have I6 := qh hI; have S6 := qh hS; have D6 := qh (D5.out.trans hB); have K6 := qh (K5.out.trans hK); have E6 := qh (n1 E5.out); have F6 := qh (n2 F5.out); have G6 := qh (n3 G5.out); clear hr hy hI hS hB hK n1 n2 n3 hkd) | (have N6 := qh hn; have D6 := qh (D5.out.trans hB); have K6 := qh (K5.out.trans hK); have B6 := qh hC; clear hn hB hK hC))) | ((with_reducible refine ((c7 q6 _ r6 Y6.out I6.out S6.out).out).mono ?_); rintro e w7 (⟨q7, r7, hr, rfl, hy, hI, hS, hkd, hB, hK, ⟨n1, n2, n3⟩⟩ | ⟨hn, ⟨ss, rfl⟩, hB, hK, hC⟩); (all_goals first | (have R7 := qh hr; have Y7 := qh hy; have I7 := qh hI; have S7 := qh hS; have D7 := qh (D6.out.trans hB); have K7 := qh (K6.out.trans hK); have E7 := qh (n1 E6.out); have F7 := qh (n2 F6.out); have G7 := qh (n3 G6.out); clear hr hy hI hS hB hK n1 n2 n3 hkd) | (have N7 := qh hn; have D7 := qh (D6.out.trans hB); have K7 := qh (K6.out.trans hK); have B7 := qh hC; clear hn hB hK hC))) | ((with_reducible refine ((c8 q7 _ r7 Y7.out I7.out S7.out).out).mono ?_); rintro e w8 (⟨q8, r8, hr, rfl, hy, hI, hS, hkd, hB, hK, ⟨n1, n2, n3⟩⟩ | ⟨hn, ⟨ss, rfl⟩, hB, hK, hC⟩); (all_goals first | (have R8 := qh hr; have Y8 := qh hy; have I8 := qh hI; have S8 := qh hS; have D8 := qh (D7.out.trans hB); have K8 := qh (K7.out.trans hK); have E8 := qh (n1 E7.out); have F8 := qh (n2 F7.out); have G8 := qh (n3 G7.out); clear hr hy hI hS hB hK n1 n2 n3 hkd) | (have N8 := qh hn; have D8 := qh (D7.out.trans hB); have K8 := qh (K7.out.trans hK); have B8 := qh hC; clear hn hB hK hC))) | ((with_reducible refine ((c9 q8 _ r8 Y8.out E8.out I8.out S8.out).out).mono ?_); rintro e w9 (⟨q9, r9, hr, rfl, hy, hI, hS, hkd, hB, hK, ⟨n2, n3⟩⟩ | ⟨hn, ⟨ss, rfl⟩, hB, hK, hC⟩); (all_goals first | (have R9 := qh hr; have Y9 := qh hy; have I9 := qh hI; have S9 := qh hS; have D9 := qh (D8.out.trans hB); have K9 := qh (K8.out.trans hK); have F9 := qh (n2 F8.out); have G9 := qh (n3 G8.out); clear hr hy hI hS hB hK n2 n3 hkd) | (have N9 := qh hn; have D9 := qh (D8.out.trans hB); have K9 := qh (K8.out.trans hK); have B9 := qh hC; clear hn hB hK hC))) | ((with_reducible refine ((c10 q9 _ r9 Y9.out F9.out I9.out S9.out).out).mono ?_); rintro e w10 (⟨q10, r10, hr, rfl, hy, hI, hS, hkd, hB, hK, n3⟩ | ⟨hn, ⟨ss, rfl⟩, hB, hK, hC⟩); (all_goals first | (have R10 := qh hr; have Y10 := qh hy; have I10 := qh hI; have S10 := qh hS; have D10 := qh (D9.out.trans hB); have K10 := qh (K9.out.trans hK); have G10 := qh (n3 G9.out); clear hr hy hI hS hB hK n3 hkd) | (have N10 := qh hn; have D10 := qh (D9.out.trans hB); have K10 := qh (K9.out.trans hK); have B10 := qh hC; clear hn hB hK hC))) | ((with_reducible refine ((c11 q10 _ r10 Y10.out G10.out I10.out S10.out).out).mono ?_); rintro e w11 (⟨q11, r11, hr, rfl, hy, hI, hS, hRD, hB, hK⟩ | ⟨hn, ⟨ss, rfl⟩, hB, hK, hC⟩); (all_goals first | (have R11 := qh hr; have Y11 := qh hy; have I11 := qh hI; have S11 := qh hS; have D11 := qh (D10.out.trans hB); have K11 := qh (K10.out.trans hK); have RD11 := qh hRD; clear hr hy hI hS hB hK  hRD) | (have N11 := qh hn; have D11 := qh (D10.out.trans hB); have K11 := qh (K10.out.trans hK); have B11 := qh hC; clear hn hB hK hC))))
  · go_end0
    exact .inl ⟨q11, r11, by rw [HD.out, R1.out, Option.bind_some , R2.out, Option.bind_some , R3.out, Option.bind_some , R4.out, Option.bind_some , R5.out, Option.bind_some , R6.out, Option.bind_some , R7.out, Option.bind_some , R8.out, Option.bind_some , R9.out, Option.bind_some , R10.out, Option.bind_some , R11.out], rfl, Y11.out, I11.out, S11.out.box, S11.out.ri, S11.out.rl, RD11.out, D11.out, K11.out⟩
  · exact ⟨rfl, .inr ⟨by rw [HD.out, R1.out, Option.bind_some, R2.out, Option.bind_some, R3.out, Option.bind_some, R4.out, Option.bind_some, R5.out, Option.bind_some, R6.out, Option.bind_some, R7.out, Option.bind_some, R8.out, Option.bind_some, R9.out, Option.bind_some, R10.out, Option.bind_some, N11.out], ⟨_, rfl⟩, D11.out, K11.out, B11.out⟩⟩
  · exact ⟨rfl, .inr ⟨by rw [HD.out, R1.out, Option.bind_some, R2.out, Option.bind_some, R3.out, Option.bind_some, R4.out, Option.bind_some, R5.out, Option.bind_some, R6.out, Option.bind_some, R7.out, Option.bind_some, R8.out, Option.bind_some, R9.out, Option.bind_some, N10.out, Option.bind_none], ⟨_, rfl⟩, D10.out, K10.out, B10.out⟩⟩
  · exact ⟨rfl, .inr ⟨by rw [HD.out, R1.out, Option.bind_some, R2.out, Option.bind_some, R3.out, Option.bind_some, R4.out, Option.bind_some, R5.out, Option.bind_some, R6.out, Option.bind_some, R7.out, Option.bind_some, R8.out, Option.bind_some, N9.out, Option.bind_none], ⟨_, rfl⟩, D9.out, K9.out, B9.out⟩⟩
  · exact ⟨rfl, .inr ⟨by rw [HD.out, R1.out, Option.bind_some, R2.out, Option.bind_some, R3.out, Option.bind_some, R4.out, Option.bind_some, R5.out, Option.bind_some, R6.out, Option.bind_some, R7.out, Option.bind_some, N8.out, Option.bind_none], ⟨_, rfl⟩, D8.out, K8.out, B8.out⟩⟩
  · exact ⟨rfl, .inr ⟨by rw [HD.out, R1.out, Option.bind_some, R2.out, Option.bind_some, R3.out, Option.bind_some, R4.out, Option.bind_some, R5.out, Option.bind_some, R6.out, Option.bind_some, N7.out, Option.bind_none], ⟨_, rfl⟩, D7.out, K7.out, B7.out⟩⟩
  · exact ⟨rfl, .inr ⟨by rw [HD.out, R1.out, Option.bind_some, R2.out, Option.bind_some, R3.out, Option.bind_some, R4.out, Option.bind_some, R5.out, Option.bind_some, N6.out, Option.bind_none], ⟨_, rfl⟩, D6.out, K6.out, B6.out⟩⟩
  · exact ⟨rfl, .inr ⟨by rw [HD.out, R1.out, Option.bind_some, R2.out, Option.bind_some, R3.out, Option.bind_some, R4.out, Option.bind_some, N5.out, Option.bind_none], ⟨_, rfl⟩, D5.out, K5.out, B5.out⟩⟩
  · exact ⟨rfl, .inr ⟨by rw [HD.out, R1.out, Option.bind_some, R2.out, Option.bind_some, R3.out, Option.bind_some, N4.out, Option.bind_none], ⟨_, rfl⟩, D4.out, K4.out, B4.out⟩⟩
  · exact ⟨rfl, .inr ⟨by rw [HD.out, R1.out, Option.bind_some, R2.out, Option.bind_some, N3.out, Option.bind_none], ⟨_, rfl⟩, D3.out, K3.out, B3.out⟩⟩
  · exact ⟨rfl, .inr ⟨by rw [HD.out, R1.out, Option.bind_some, N2.out, Option.bind_none], ⟨_, rfl⟩, D2.out, K2.out, B2.out⟩⟩
  · exact ⟨rfl, .inr ⟨by rw [HD.out, N1.out, Option.bind_none], ⟨_, rfl⟩, D1.out, K1.out, B1.out⟩⟩
theorem laymsg_r (P : Nat) (bs : List Int) (b Bb Bp : Nat) (w : World) (hBy : Im.IsBytes bs) (hbB : b ≤ Bb) (hbP : b ≤ P) (hbw : b ≤ w.heap.size) (h : Rd b Bb Bp bs w) (hP : Box w P 29 (Ms.cells (Ms.start 0 0 0 0 0) (.slice none 0 0) (.slice none 0 0) (.slice none 0 0))) :
    Calls Try.prog 31 #[.func (.func 60) #[] #[.pointer (some ⟨Bp, 0, none⟩)], .pointer (some ⟨P, 0, none⟩)] w (GotM (Ms.decMsg bs) b Bb Bp P w) := by
  have c1 := fun bs X hy hb hI hB => qh (part_int 1 1 rfl 0 P 0 29 (Ms.cells (Ms.start 0 0 0 0 0) (.slice none 0 0) (.slice none 0 0) (.slice none 0 0)) bs b Bb Bp X (by decide) hy hbB hbP hb hI hB rfl (by decide) (by decide) (by decide))
  have c2 := fun (k : Int) bs X hy hb hI hB => qh (part_int 1 1 rfl 0 P 1 29 (Ms.cells (Ms.start k 0 0 0 0) (.slice none 0 0) (.slice none 0 0) (.slice none 0 0)) bs b Bb Bp X (by decide) hy hbB hbP hb hI hB rfl (by decide) (by decide) (by decide))
  have c3 := fun (k f : Int) bs X hy hb hI hB => qh (part_u16 2 2 rfl 0 P 2 29 (Ms.cells (Ms.start k f 0 0 0) (.slice none 0 0) (.slice none 0 0) (.slice none 0 0)) bs b Bb Bp X (by decide) hy hbB hbP hb hI hB rfl (by decide) (by decide) (by decide))
  have c4 := fun (k f s : Int) bs X hy hb hI hB => qh (part_u16 2 2 rfl 0 P 3 29 (Ms.cells (Ms.start k f s 0 0) (.slice none 0 0) (.slice none 0 0) (.slice none 0 0)) bs b Bb Bp X (by decide) hy hbB hbP hb hI hB rfl (by decide) (by decide) (by decide))
  have c5 := fun (k f s a : Int) bs X hy hb hI hB => qh (part_u32 4 4 rfl 0 P 4 29 (Ms.cells (Ms.start k f s a 0) (.slice none 0 0) (.slice none 0 0) (.slice none 0 0)) bs b Bb Bp X (by decide) hy hbB hbP hb hI hB rfl (by decide) (by decide) (by decide))
  have c6 : ∀ (k f s a n : Int) (bs : List Int) (X : World), Im.IsBytes bs → b ≤ X.heap.size → Rd b Bb Bp bs X → Box X P 29 (Ms.cells (Ms.start k f s a n) (.slice none 0 0) (.slice none 0 0) (.slice none 0 0)) → Hid (Calls Try.prog 53 #[.func (.func 60) #[] #[.pointer (some ⟨Bp, 0, none⟩)], .int .i64 (Ms.own k), .pointer (some ⟨P, 0, none⟩)] X (GotM (Ms.decParts (Ms.start k f s a n, bs)) b Bb Bp P X)) := fun k f s a n bs X hy hb hI hB => qh (layparts_r (⟨Ms.start k f s a n, none, 0, none, 0, none, 0⟩ : Ms.S) P bs b Bb Bp X hy hbB hbP hb ⟨rfl, rfl, rfl⟩ ⟨rfl, rfl, rfl⟩ ⟨rfl, rfl, rfl⟩ hI hB)
  have cp := fun k X => qh (partsof_any k X)
  have HD := qh (show Ms.decMsg bs = (Im.rdn 1 bs).bind fun k => (Im.rdn 1 k.2).bind fun f => (Im.rdn 2 f.2).bind fun s => (Im.rdn 2 s.2).bind fun a => (Im.rdn 4 a.2).bind fun n => if Ms.isKind k.1 then Ms.decParts (Ms.start k.1 f.1 s.1 a.1 n.1, n.2) else none from rfl)
  have I0 := qh h
  have Y0 := qh hBy
  have P0 := qh hP
  have K0 := qh (Rk.refl b Bb P w)
  have ltP := hP.lt
  clear h hP hBy
  go_enter Try.func31, Try.ntmps31
  go_upto_region 5 with (first | (go_at_call 51; first | ((with_reducible refine ((c1  bs _ Y0.out (Nat.le_trans hbw K0.out.below.size) I0.out P0.out).out).mono ?_); rintro e w1 (⟨k, r1, hr, rfl, hI, hK, hB⟩ | ⟨hn, ⟨ss, rfl⟩, hK, cs', hB, hs⟩); (all_goals first | (have R1 := qh hr; have Y1 := qh (Im.rdn_inv Y0.out hr).2.2.2; have P1 := qh (show Box w1 P 29 (Ms.cells (Ms.start k 0 0 0 0) (.slice none 0 0) (.slice none 0 0) (.slice none 0 0)) from hB); have I1 := qh hI; have K1 := qh (K0.out.trans hK); clear hr hI hK hB) | (have N1 := qh hn; have K1 := qh (K0.out.trans hK); have B1 := qh hB; have Z1 := qh hs; clear hn hK hB hs))) | ((with_reducible refine ((c2 k r1 _ Y1.out (Nat.le_trans hbw K1.out.below.size) I1.out P1.out).out).mono ?_); rintro e w2 (⟨f, r2, hr, rfl, hI, hK, hB⟩ | ⟨hn, ⟨ss, rfl⟩, hK, cs', hB, hs⟩); (all_goals first | (have R2 := qh hr; have Y2 := qh (Im.rdn_inv Y1.out hr).2.2.2; have P2 := qh (show Box w2 P 29 (Ms.cells (Ms.start k f 0 0 0) (.slice none 0 0) (.slice none 0 0) (.slice none 0 0)) from hB); have I2 := qh hI; have K2 := qh (K1.out.trans hK); clear hr hI hK hB) | (have N2 := qh hn; have K2 := qh (K1.out.trans hK); have B2 := qh hB; have Z2 := qh hs; clear hn hK hB hs)))) | (go_at_call 52; first | ((with_reducible refine ((c3 k f r2 _ Y2.out (Nat.le_trans hbw K2.out.below.size) I2.out P2.out).out).mono ?_); rintro e w3 (⟨s, r3, hr, rfl, hI, hK, hB⟩ | ⟨hn, ⟨ss, rfl⟩, hK, cs', hB, hs⟩); (all_goals first | (have R3 := qh hr; have Y3 := qh (Im.rdn_inv Y2.out hr).2.2.2; have P3 := qh (show Box w3 P 29 (Ms.cells (Ms.start k f s 0 0) (.slice none 0 0) (.slice none 0 0) (.slice none 0 0)) from hB); have I3 := qh hI; have K3 := qh (K2.out.trans hK); clear hr hI hK hB) | (have N3 := qh hn; have K3 := qh (K2.out.trans hK); have B3 := qh hB; have Z3 := qh hs; clear hn hK hB hs))) | ((with_reducible refine ((c4 k f s r3 _ Y3.out (Nat.le_trans hbw K3.out.below.size) I3.out P3.out).out).mono ?_); rintro e w4 (⟨a, r4, hr, rfl, hI, hK, hB⟩ | ⟨hn, ⟨ss, rfl⟩, hK, cs', hB, hs⟩); (all_goals first | (have R4 := qh hr; have Y4 := qh (Im.rdn_inv Y3.out hr).2.2.2; have P4 := qh (show Box w4 P 29 (Ms.cells (Ms.start k f s a 0) (.slice none 0 0) (.slice none 0 0) (.slice none 0 0)) from hB); have I4 := qh hI; have K4 := qh (K3.out.trans hK); clear hr hI hK hB) | (have N4 := qh hn; have K4 := qh (K3.out.trans hK); have B4 := qh hB; have Z4 := qh hs; clear hn hK hB hs)))) | (go_at_call 33; ((with_reducible refine ((c5 k f s a r4 _ Y4.out (Nat.le_trans hbw K4.out.below.size) I4.out P4.out).out).mono ?_); rintro e w5 (⟨n, r5, hr, rfl, hI, hK, hB⟩ | ⟨hn, ⟨ss, rfl⟩, hK, cs', hB, hs⟩); (all_goals first | (have R5 := qh hr; have Y5 := qh (Im.rdn_inv Y4.out hr).2.2.2; have P5 := qh (show Box w5 P 29 (Ms.cells (Ms.start k f s a n) (.slice none 0 0) (.slice none 0 0) (.slice none 0 0)) from hB); have I5 := qh hI; have K5 := qh (K4.out.trans hK); clear hr hI hK hB) | (have N5 := qh hn; have K5 := qh (K4.out.trans hK); have B5 := qh hB; have Z5 := qh hs; clear hn hK hB hs)))))
  rotate_left
  · exact ⟨rfl, .inr ⟨by rw [HD.out, R1.out, Option.bind_some, R2.out, Option.bind_some, R3.out, Option.bind_some, R4.out, Option.bind_some, N5.out, Option.bind_none], ⟨_, rfl⟩, K5.out.below, K5.out.kb, _, B5.out, Z5.out⟩⟩
  · exact ⟨rfl, .inr ⟨by rw [HD.out, R1.out, Option.bind_some, R2.out, Option.bind_some, R3.out, Option.bind_some, N4.out, Option.bind_none], ⟨_, rfl⟩, K4.out.below, K4.out.kb, _, B4.out, Z4.out⟩⟩
  · exact ⟨rfl, .inr ⟨by rw [HD.out, R1.out, Option.bind_some, R2.out, Option.bind_some, N3.out, Option.bind_none], ⟨_, rfl⟩, K3.out.below, K3.out.kb, _, B3.out, Z3.out⟩⟩
  · exact ⟨rfl, .inr ⟨by rw [HD.out, R1.out, Option.bind_some, N2.out, Option.bind_none], ⟨_, rfl⟩, K2.out.below, K2.out.kb, _, B2.out, Z2.out⟩⟩
  · exact ⟨rfl, .inr ⟨by rw [HD.out, N1.out, Option.bind_none], ⟨_, rfl⟩, K1.out.below, K1.out.kb, _, B1.out, Z1.out⟩⟩
  have p5 : w5.cell? ⟨P, 0, none⟩ = some (.int .i64 k) := P5.out.cell 0
  have cpk := cp k
  cases hk : Ms.isKind k with
  | true =>
    rw [hk] at cpk
    have HK := qh hk
    clear hk
    go_wp2_with (first | (go_at_call 34; ((with_reducible refine ((cpk _).out).mono ?_); rintro e wp ⟨rfl, rfl⟩)) | (go_at_call 30; ((with_reducible refine (need_yes _ _).mono ?_); rintro r wn ⟨rfl, rfl⟩)) | (go_at_call 53; ((with_reducible refine ((c6 k f s a n r5 w5 Y5.out (Nat.le_trans hbw K5.out.below.size) I5.out P5.out).out).mono ?_); rintro e w6 (⟨q', rest, hr, rfl, hy, hI, hB, hri, hrl, hrd, hb, hK⟩ | ⟨hn, ⟨ss, rfl⟩, hb, hK, hC⟩); (all_goals first | (have R6 := qh hr; have Y6 := qh hy; have I6 := qh hI; have P6 := qh hB; have RI6 := qh hri; have RL6 := qh hrl; have RD6 := qh hrd; have D6 := qh (K5.out.below.trans hb); have K6 := qh (K5.out.kb.trans hK); clear hr hy hI hB hri hrl hrd hb hK) | (have N6 := qh hn; have D6 := qh (K5.out.below.trans hb); have K6 := qh (K5.out.kb.trans hK); have B6 := qh hC; clear hn hb hK hC)))))
    · go_end0
      exact .inl ⟨q', rest, by rw [HD.out, R1.out, Option.bind_some, R2.out, Option.bind_some, R3.out, Option.bind_some, R4.out, Option.bind_some, R5.out, Option.bind_some, HK.out, if_pos rfl]; exact R6.out, rfl, Y6.out, I6.out, P6.out, RI6.out, RL6.out, RD6.out, D6.out, K6.out⟩
    · exact ⟨rfl, .inr ⟨by rw [HD.out, R1.out, Option.bind_some, R2.out, Option.bind_some, R3.out, Option.bind_some, R4.out, Option.bind_some, R5.out, Option.bind_some, HK.out, if_pos rfl]; exact N6.out, ⟨_, rfl⟩, D6.out, K6.out, B6.out⟩⟩
  | false =>
    rw [hk] at cpk
    have HK := qh hk
    clear hk
    go_wp2_with (first | (go_at_call 34; ((with_reducible refine ((cpk _).out).mono ?_); rintro e wp ⟨rfl, rfl⟩)) | (go_at_call 30; ((with_reducible refine (need_no _ _).mono ?_); rintro r wn ⟨rfl, rfl⟩)))
    exact ⟨rfl, .inr ⟨by rw [HD.out, R1.out, Option.bind_some, R2.out, Option.bind_some, R3.out, Option.bind_some, R4.out, Option.bind_some, R5.out, Option.bind_some, HK.out]; rfl, ⟨_, rfl⟩, K5.out.below, K5.out.kb, _, P5.out, rfl⟩⟩
end Go.Proofs.Ytgmlbimgcifenaa
namespace Im
open Go
theorem getB_inv {size : Nat} {bs l rest : List Int} (hB : IsBytes bs) (h : getB size bs = some (l, rest)) : bs = bytesOf size l.length ++ (l ++ rest) ∧ IsBytes l ∧ IsBytes rest ∧ (l.length : Int) < 2 ^ (8 * size) := by
  unfold getB at h
  cases h1 : rdn size bs with
  | none => rw [h1] at h; cases h
  | some q =>
    obtain ⟨n, r⟩ := q
    rw [h1, Option.bind_some] at h
    obtain ⟨e1, e2, e3, e4⟩ := rdn_inv hB h1
    dsimp only at h
    split at h
    · rename_i hle
      injection h with h
      injection h with ha hb
      have hl : (l.length : Int) = n := by rw [← ha, List.length_take]; omega
      refine ⟨by rw [hl, ← ha, ← hb, List.take_append_drop]; exact e1, by rw [← ha]; exact e4.take _, by rw [← hb]; exact e4.drop _, by rw [hl]; exact e3⟩
    · cases h
theorem getB_put {size : Nat} {l rest : List Int} (h : (l.length : Int) < 2 ^ (8 * size)) : getB size (bytesOf size l.length ++ (l ++ rest)) = some (l, rest) := by
  unfold getB
  rw [rdn_bytes, Option.bind_some, Int.emod_eq_of_lt (by omega) h]
  dsimp only
  rw [Int.toNat_natCast, if_pos (by simp)]
  simp
theorem decN_inv {α : Type} {dec : List Int → Option (α × List Int)} {f : α → List Int} {Q : α → Prop} (hd : ∀ bs v rest, IsBytes bs → dec bs = some (v, rest) → bs = f v ++ rest ∧ IsBytes rest ∧ Q v) : ∀ {n : Nat} {bs rest : List Int} {l : List α}, IsBytes bs → decN dec n bs = some (l, rest) → bs = l.flatMap f ++ rest ∧ IsBytes rest ∧ (∀ v ∈ l, Q v) ∧ l.length = n
  | 0, bs, rest, l, hB, h => by
    unfold decN at h
    injection h with h
    injection h with h1 h2
    subst h1 h2
    exact ⟨rfl, hB, fun v h => (by cases h), rfl⟩
  | n + 1, bs, rest, l, hB, h => by
    rw [decN] at h
    cases h1 : dec bs with
    | none => rw [h1] at h; cases h
    | some q =>
      obtain ⟨v, r⟩ := q
      rw [h1, Option.bind_some] at h
      obtain ⟨e1, e2, e3⟩ := hd bs v r hB h1
      cases h2 : decN dec n r with
      | none => rw [h2] at h; cases h
      | some q2 =>
        obtain ⟨l2, r2⟩ := q2
        rw [h2, Option.bind_some] at h
        injection h with h
        injection h with ha hb
        obtain ⟨g1, g2, g3, g4⟩ := decN_inv hd e2 h2
        dsimp only at ha hb
        subst ha hb
        refine ⟨by rw [e1, g1, List.flatMap_cons, List.append_assoc], g2, fun u hu => ?_, by rw [List.length_cons, g4]⟩
        rcases List.mem_cons.1 hu with rfl | hu
        · exact e3
        · exact g3 u hu
theorem decL_inv {α : Type} {size : Nat} {dec : List Int → Option (α × List Int)} {f : α → List Int} {Q : α → Prop} (hd : ∀ bs v rest, IsBytes bs → dec bs = some (v, rest) → bs = f v ++ rest ∧ IsBytes rest ∧ Q v) {bs rest : List Int} {l : List α} (hB : IsBytes bs) (h : decL size dec bs = some (l, rest)) : bs = (bytesOf size l.length ++ l.flatMap f) ++ rest ∧ IsBytes rest ∧ (∀ v ∈ l, Q v) ∧ (l.length : Int) < 2 ^ (8 * size) := by
  unfold decL at h
  cases h1 : rdn size bs with
  | none => rw [h1] at h; cases h
  | some q =>
    obtain ⟨n, r⟩ := q
    rw [h1, Option.bind_some] at h
    obtain ⟨e1, e2, e3, e4⟩ := rdn_inv hB h1
    obtain ⟨g1, g2, g3, g4⟩ := decN_inv hd e4 h
    have hl : (l.length : Int) = n := by rw [g4]; dsimp only; omega
    exact ⟨by rw [hl, List.append_assoc, ← g1]; exact e1, g2, g3, by rw [hl]; exact e3⟩
theorem decN_put {α β : Type} {dec : List Int → Option (α × List Int)} {f : β → List Int} {R : β → α → Prop} : ∀ (l : List β) (rest : List Int), (∀ v ∈ l, ∀ rest, ∃ u, dec (f v ++ rest) = some (u, rest) ∧ R v u) → ∃ l', decN dec l.length (l.flatMap f ++ rest) = some (l', rest) ∧ l'.length = l.length ∧ ∀ k (h : k < l.length) (h' : k < l'.length), R l[k] l'[k]
  | [], rest, _ => ⟨[], rfl, rfl, fun k h _ => (by simp at h)⟩
  | v :: l, rest, h => by
    obtain ⟨u, h1, h2⟩ := h v (by simp) (l.flatMap f ++ rest)
    obtain ⟨l', g1, g2, g3⟩ := decN_put l rest fun v hv => h v (by simp [hv])
    refine ⟨u :: l', ?_, by simp [g2], fun k hk hk' => ?_⟩
    · rw [List.length_cons, decN, List.flatMap_cons, List.append_assoc, h1, Option.bind_some, g1, Option.bind_some]
    · cases k with
      | zero => exact h2
      | succ k => exact g3 k (by simpa using hk) (by simpa using hk')
theorem decL_put {α β : Type} {size : Nat} {dec : List Int → Option (α × List Int)} {f : β → List Int} {R : β → α → Prop} (l : List β) (rest : List Int) (hl : (l.length : Int) < 2 ^ (8 * size)) (h : ∀ v ∈ l, ∀ rest, ∃ u, dec (f v ++ rest) = some (u, rest) ∧ R v u) : ∃ l', decL size dec ((bytesOf size l.length ++ l.flatMap f) ++ rest) = some (l', rest) ∧ l'.length = l.length ∧ ∀ k (h : k < l.length) (h' : k < l'.length), R l[k] l'[k] := by
  obtain ⟨l', g1, g2⟩ := decN_put l rest h
  refine ⟨l', ?_, g2⟩
  unfold decL
  rw [List.append_assoc, rdn_bytes, Option.bind_some, Int.emod_eq_of_lt (by omega) hl]
  dsimp only
  rw [Int.toNat_natCast]
  exact g1
end Im
namespace Ms
open Go Im
open Go.Proofs.Ytgmlbimgcifenaa
theorem decInW_inv {bs rest : List Int} {p : Gm.In} (hB : IsBytes bs) (h : decInW bs = some (p, rest)) : bs = En.inBytes p ++ rest ∧ IsBytes rest ∧ Gm.tyIn p := by
  unfold decInW at h
  cases h1 : rdn 1 bs with
  | none => rw [h1] at h; cases h
  | some x =>
    rw [h1, Option.bind_some] at h
    cases h2 : rdn 1 x.2 with
    | none => rw [h2] at h; cases h
    | some y =>
      rw [h2, Option.bind_some] at h
      cases h3 : rdn 1 y.2 with
      | none => rw [h3] at h; cases h
      | some z =>
        rw [h3, Option.bind_some] at h
        injection h with h
        injection h with ha hb
        obtain ⟨e1, x0, x1, b1⟩ := rdn_inv hB h1
        obtain ⟨e2, y0, y1, b2⟩ := rdn_inv b1 h2
        obtain ⟨e3, z0, z1, b3⟩ := rdn_inv b2 h3
        have i1 : ∀ v : Int, bytesOf 1 (IntKind.i8.wrap v) = bytesOf 1 v := fun v => by
          show [] ++ [IntKind.i8.wrap v / 2 ^ (8 * 0) % 256] = [] ++ [v / 2 ^ (8 * 0) % 256]
          rw [Im.wrap_i8]
          simp
          try omega
        subst ha hb
        refine ⟨?_, b3, ⟨by dsimp only; rw [Im.wrap_i8]; omega, by dsimp only; rw [Im.wrap_i8]; omega, by dsimp only; omega⟩⟩
        show bs = (bytesOf 1 (IntKind.i8.wrap x.1) ++ (bytesOf 1 (IntKind.i8.wrap y.1) ++ bytesOf 1 z.1)) ++ z.2
        rw [i1, i1, List.append_assoc, List.append_assoc, ← e3, ← e2]
        exact e1
theorem decInW_put {p : Gm.In} (h : Gm.tyIn p) (rest : List Int) : decInW (En.inBytes p ++ rest) = some (p, rest) := by
  obtain ⟨t1, t2, t3⟩ := h
  show decInW ((bytesOf 1 p.x ++ (bytesOf 1 p.y ++ bytesOf 1 p.b)) ++ rest) = _
  rw [List.append_assoc, List.append_assoc]
  unfold decInW
  rw [rdn_bytes, Option.bind_some, rdn_bytes, Option.bind_some, rdn_bytes, Option.bind_some]
  obtain ⟨x, y, b⟩ := p
  dsimp only at *
  rw [Im.wrap_i8, Im.wrap_i8]
  congr 3
  · omega
  · omega
  · omega
theorem decEntryW_inv {bs rest : List Int} {e : En.E} (hB : IsBytes bs) (h : decEntryW bs = some (e, rest)) : bs = logBytes ⟨e, none, 0⟩ ++ rest ∧ IsBytes rest ∧ (En.Ok e ∧ En.Ty e) := by
  unfold decEntryW at h
  cases h1 : getB 2 bs with
  | none => rw [h1] at h; cases h
  | some q =>
    obtain ⟨l, r⟩ := q
    rw [h1, Option.bind_some] at h
    obtain ⟨e1, e2, e3, e4⟩ := getB_inv hB h1
    dsimp only at h
    cases h2 : En.get l with
    | none => rw [h2] at h; cases h
    | some e' =>
      rw [h2, Option.bind_some] at h
      injection h with h
      injection h with ha hb
      obtain ⟨g1, g2, g3⟩ := En.get_some e2 h2
      subst ha hb
      refine ⟨?_, e3, g1, g2⟩
      show bs = (bytesOf 2 ((En.put e').length : Int) ++ En.put e') ++ r
      rw [g3, List.append_assoc]
      exact e1
theorem decEntryW_put {s : En.S} (h : En.Ok s.e) (ht : En.Ty s.e) (rest : List Int) : ∃ e', decEntryW (logBytes s ++ rest) = some (e', rest) ∧ En.Like s.e e' := by
  obtain ⟨e', h1, h2⟩ := En.get_put h ht
  refine ⟨e', ?_, h2⟩
  have := En.put_le h.count
  show decEntryW ((bytesOf 2 ((En.put s.e).length : Int) ++ En.put s.e) ++ rest) = _
  unfold decEntryW
  rw [List.append_assoc, getB_put (by omega), Option.bind_some]
  dsimp only
  rw [h1]
  rfl
theorem rdN_inv {c : Int} {n : Nat} {set : M → Int → M} {get : M → Int} {q : M × List Int} {m : M} {rest : List Int} (hset : ∀ m y, get (set m y) = y) (hB : IsBytes q.2) (h : rdN c n set q = some (m, rest)) : ((has q.1.kind).contains c = true ∧ q.2 = bytesOf n (get m) ++ rest ∧ 0 ≤ get m ∧ get m < 2 ^ (8 * n) ∧ m = set q.1 (get m) ∧ IsBytes rest) ∨ ((has q.1.kind).contains c = false ∧ m = q.1 ∧ rest = q.2) := by
  unfold rdN at h
  split at h
  · rename_i hc
    cases h1 : rdn n q.2 with
    | none => rw [h1] at h; cases h
    | some a =>
      rw [h1, Option.bind_some] at h
      injection h with h
      injection h with ha hb
      obtain ⟨e1, e2, e3, e4⟩ := rdn_inv hB h1
      subst ha hb
      rw [hset]
      exact .inl ⟨hc, e1, e2, e3, rfl, e4⟩
  · rename_i hc
    injection h with h
    exact .inr ⟨by simpa using hc, by rw [h], by rw [h]⟩
theorem inv_slot {q : M × List Int} {m : M} {rest : List Int} (hB : IsBytes q.2) (h : rd_slot q = some (m, rest)) : ∃ y, m = { q.1 with slot := y } ∧ q.2 = sel q.1.kind 115 (bytesOf 1 m.slot) ++ rest ∧ IsBytes rest ∧ ((0 ≤ y ∧ y ≤ 255) ∨ y = q.1.slot) := by
  rcases rdN_inv (get := fun m => m.slot) (fun _ _ => rfl) hB h with ⟨hc, h1, h2, h3, h4, h5⟩ | ⟨hc, h1, h2⟩
  · exact ⟨m.slot, h4, by rw [sel_yes hc]; exact h1, h5, .inl ⟨h2, by have h6 : m.slot < 2 ^ (8 * 1) := h3; omega⟩⟩
  · exact ⟨q.1.slot, h1, by rw [sel_no hc, h2]; rfl, by rw [h2]; exact hB, .inr rfl⟩
theorem fwd_slot (q : M) (m : M) (rest : List Int) (hk : q.kind = m.kind) (hx : (has m.kind).contains 115 = true → 0 ≤ m.slot ∧ m.slot ≤ 255) (h0 : (has m.kind).contains 115 = false → m.slot = q.slot) : rd_slot (q, sel m.kind 115 (bytesOf 1 m.slot) ++ rest) = some ({ q with slot := m.slot }, rest) := by
  unfold rd_slot rdN
  dsimp only
  have hk' : has q.kind = has m.kind := by rw [hk]
  rw [hk']
  cases hc : (has m.kind).contains 115 with
  | true =>
    have := hx hc
    rw [sel_yes hc, if_pos rfl, rdn_bytes, Option.bind_some, Int.emod_eq_of_lt this.1 (by show m.slot < _; omega)]
  | false =>
    rw [sel_no hc, h0 hc, if_neg (by decide)]
    rfl
theorem inv_gen {q : M × List Int} {m : M} {rest : List Int} (hB : IsBytes q.2) (h : rd_gen q = some (m, rest)) : ∃ y, m = { q.1 with gen := y } ∧ q.2 = sel q.1.kind 103 (bytesOf 2 m.gen) ++ rest ∧ IsBytes rest ∧ ((0 ≤ y ∧ y ≤ 65535) ∨ y = q.1.gen) := by
  rcases rdN_inv (get := fun m => m.gen) (fun _ _ => rfl) hB h with ⟨hc, h1, h2, h3, h4, h5⟩ | ⟨hc, h1, h2⟩
  · exact ⟨m.gen, h4, by rw [sel_yes hc]; exact h1, h5, .inl ⟨h2, by have h6 : m.gen < 2 ^ (8 * 2) := h3; omega⟩⟩
  · exact ⟨q.1.gen, h1, by rw [sel_no hc, h2]; rfl, by rw [h2]; exact hB, .inr rfl⟩
theorem fwd_gen (q : M) (m : M) (rest : List Int) (hk : q.kind = m.kind) (hx : (has m.kind).contains 103 = true → 0 ≤ m.gen ∧ m.gen ≤ 65535) (h0 : (has m.kind).contains 103 = false → m.gen = q.gen) : rd_gen (q, sel m.kind 103 (bytesOf 2 m.gen) ++ rest) = some ({ q with gen := m.gen }, rest) := by
  unfold rd_gen rdN
  dsimp only
  have hk' : has q.kind = has m.kind := by rw [hk]
  rw [hk']
  cases hc : (has m.kind).contains 103 with
  | true =>
    have := hx hc
    rw [sel_yes hc, if_pos rfl, rdn_bytes, Option.bind_some, Int.emod_eq_of_lt this.1 (by show m.gen < _; omega)]
  | false =>
    rw [sel_no hc, h0 hc, if_neg (by decide)]
    rfl
theorem inv_frame {q : M × List Int} {m : M} {rest : List Int} (hB : IsBytes q.2) (h : rd_frame q = some (m, rest)) : ∃ y, m = { q.1 with frame := y } ∧ q.2 = sel q.1.kind 102 (bytesOf 4 m.frame) ++ rest ∧ IsBytes rest ∧ ((0 ≤ y ∧ y ≤ 4294967295) ∨ y = q.1.frame) := by
  rcases rdN_inv (get := fun m => m.frame) (fun _ _ => rfl) hB h with ⟨hc, h1, h2, h3, h4, h5⟩ | ⟨hc, h1, h2⟩
  · exact ⟨m.frame, h4, by rw [sel_yes hc]; exact h1, h5, .inl ⟨h2, by have h6 : m.frame < 2 ^ (8 * 4) := h3; omega⟩⟩
  · exact ⟨q.1.frame, h1, by rw [sel_no hc, h2]; rfl, by rw [h2]; exact hB, .inr rfl⟩
theorem fwd_frame (q : M) (m : M) (rest : List Int) (hk : q.kind = m.kind) (hx : (has m.kind).contains 102 = true → 0 ≤ m.frame ∧ m.frame ≤ 4294967295) (h0 : (has m.kind).contains 102 = false → m.frame = q.frame) : rd_frame (q, sel m.kind 102 (bytesOf 4 m.frame) ++ rest) = some ({ q with frame := m.frame }, rest) := by
  unfold rd_frame rdN
  dsimp only
  have hk' : has q.kind = has m.kind := by rw [hk]
  rw [hk']
  cases hc : (has m.kind).contains 102 with
  | true =>
    have := hx hc
    rw [sel_yes hc, if_pos rfl, rdn_bytes, Option.bind_some, Int.emod_eq_of_lt this.1 (by show m.frame < _; omega)]
  | false =>
    rw [sel_no hc, h0 hc, if_neg (by decide)]
    rfl
theorem inv_code {q : M × List Int} {m : M} {rest : List Int} (hB : IsBytes q.2) (h : rd_code q = some (m, rest)) : ∃ y, m = { q.1 with code := y } ∧ q.2 = sel q.1.kind 99 (bytesOf 1 m.code) ++ rest ∧ IsBytes rest ∧ ((0 ≤ y ∧ y ≤ 255) ∨ y = q.1.code) := by
  rcases rdN_inv (get := fun m => m.code) (fun _ _ => rfl) hB h with ⟨hc, h1, h2, h3, h4, h5⟩ | ⟨hc, h1, h2⟩
  · exact ⟨m.code, h4, by rw [sel_yes hc]; exact h1, h5, .inl ⟨h2, by have h6 : m.code < 2 ^ (8 * 1) := h3; omega⟩⟩
  · exact ⟨q.1.code, h1, by rw [sel_no hc, h2]; rfl, by rw [h2]; exact hB, .inr rfl⟩
theorem fwd_code (q : M) (m : M) (rest : List Int) (hk : q.kind = m.kind) (hx : (has m.kind).contains 99 = true → 0 ≤ m.code ∧ m.code ≤ 255) (h0 : (has m.kind).contains 99 = false → m.code = q.code) : rd_code (q, sel m.kind 99 (bytesOf 1 m.code) ++ rest) = some ({ q with code := m.code }, rest) := by
  unfold rd_code rdN
  dsimp only
  have hk' : has q.kind = has m.kind := by rw [hk]
  rw [hk']
  cases hc : (has m.kind).contains 99 with
  | true =>
    have := hx hc
    rw [sel_yes hc, if_pos rfl, rdn_bytes, Option.bind_some, Int.emod_eq_of_lt this.1 (by show m.code < _; omega)]
  | false =>
    rw [sel_no hc, h0 hc, if_neg (by decide)]
    rfl
theorem inv_n {q : M × List Int} {m : M} {rest : List Int} (hB : IsBytes q.2) (h : rd_n q = some (m, rest)) : ∃ y, m = { q.1 with n := y } ∧ q.2 = sel q.1.kind 110 (bytesOf 2 m.n) ++ rest ∧ IsBytes rest ∧ ((0 ≤ y ∧ y ≤ 65535) ∨ y = q.1.n) := by
  rcases rdN_inv (get := fun m => m.n) (fun _ _ => rfl) hB h with ⟨hc, h1, h2, h3, h4, h5⟩ | ⟨hc, h1, h2⟩
  · exact ⟨m.n, h4, by rw [sel_yes hc]; exact h1, h5, .inl ⟨h2, by have h6 : m.n < 2 ^ (8 * 2) := h3; omega⟩⟩
  · exact ⟨q.1.n, h1, by rw [sel_no hc, h2]; rfl, by rw [h2]; exact hB, .inr rfl⟩
theorem fwd_n (q : M) (m : M) (rest : List Int) (hk : q.kind = m.kind) (hx : (has m.kind).contains 110 = true → 0 ≤ m.n ∧ m.n ≤ 65535) (h0 : (has m.kind).contains 110 = false → m.n = q.n) : rd_n (q, sel m.kind 110 (bytesOf 2 m.n) ++ rest) = some ({ q with n := m.n }, rest) := by
  unfold rd_n rdN
  dsimp only
  have hk' : has q.kind = has m.kind := by rw [hk]
  rw [hk']
  cases hc : (has m.kind).contains 110 with
  | true =>
    have := hx hc
    rw [sel_yes hc, if_pos rfl, rdn_bytes, Option.bind_some, Int.emod_eq_of_lt this.1 (by show m.n < _; omega)]
  | false =>
    rw [sel_no hc, h0 hc, if_neg (by decide)]
    rfl
theorem inv_of {q : M × List Int} {m : M} {rest : List Int} (hB : IsBytes q.2) (h : rd_of q = some (m, rest)) : ∃ y, m = { q.1 with of := y } ∧ q.2 = sel q.1.kind 111 (bytesOf 2 m.of) ++ rest ∧ IsBytes rest ∧ ((0 ≤ y ∧ y ≤ 65535) ∨ y = q.1.of) := by
  rcases rdN_inv (get := fun m => m.of) (fun _ _ => rfl) hB h with ⟨hc, h1, h2, h3, h4, h5⟩ | ⟨hc, h1, h2⟩
  · exact ⟨m.of, h4, by rw [sel_yes hc]; exact h1, h5, .inl ⟨h2, by have h6 : m.of < 2 ^ (8 * 2) := h3; omega⟩⟩
  · exact ⟨q.1.of, h1, by rw [sel_no hc, h2]; rfl, by rw [h2]; exact hB, .inr rfl⟩
theorem fwd_of (q : M) (m : M) (rest : List Int) (hk : q.kind = m.kind) (hx : (has m.kind).contains 111 = true → 0 ≤ m.of ∧ m.of ≤ 65535) (h0 : (has m.kind).contains 111 = false → m.of = q.of) : rd_of (q, sel m.kind 111 (bytesOf 2 m.of) ++ rest) = some ({ q with of := m.of }, rest) := by
  unfold rd_of rdN
  dsimp only
  have hk' : has q.kind = has m.kind := by rw [hk]
  rw [hk']
  cases hc : (has m.kind).contains 111 with
  | true =>
    have := hx hc
    rw [sel_yes hc, if_pos rfl, rdn_bytes, Option.bind_some, Int.emod_eq_of_lt this.1 (by show m.of < _; omega)]
  | false =>
    rw [sel_no hc, h0 hc, if_neg (by decide)]
    rfl
theorem inv_bits {q : M × List Int} {m : M} {rest : List Int} (hB : IsBytes q.2) (h : rd_bits q = some (m, rest)) : ∃ y, m = { q.1 with bits := y } ∧ q.2 = sel q.1.kind 98 (bytesOf 4 m.bits) ++ rest ∧ IsBytes rest ∧ ((0 ≤ y ∧ y ≤ 4294967295) ∨ y = q.1.bits) := by
  rcases rdN_inv (get := fun m => m.bits) (fun _ _ => rfl) hB h with ⟨hc, h1, h2, h3, h4, h5⟩ | ⟨hc, h1, h2⟩
  · exact ⟨m.bits, h4, by rw [sel_yes hc]; exact h1, h5, .inl ⟨h2, by have h6 : m.bits < 2 ^ (8 * 4) := h3; omega⟩⟩
  · exact ⟨q.1.bits, h1, by rw [sel_no hc, h2]; rfl, by rw [h2]; exact hB, .inr rfl⟩
theorem fwd_bits (q : M) (m : M) (rest : List Int) (hk : q.kind = m.kind) (hx : (has m.kind).contains 98 = true → 0 ≤ m.bits ∧ m.bits ≤ 4294967295) (h0 : (has m.kind).contains 98 = false → m.bits = q.bits) : rd_bits (q, sel m.kind 98 (bytesOf 4 m.bits) ++ rest) = some ({ q with bits := m.bits }, rest) := by
  unfold rd_bits rdN
  dsimp only
  have hk' : has q.kind = has m.kind := by rw [hk]
  rw [hk']
  cases hc : (has m.kind).contains 98 with
  | true =>
    have := hx hc
    rw [sel_yes hc, if_pos rfl, rdn_bytes, Option.bind_some, Int.emod_eq_of_lt this.1 (by show m.bits < _; omega)]
  | false =>
    rw [sel_no hc, h0 hc, if_neg (by decide)]
    rfl
theorem inv_sum {q : M × List Int} {m : M} {rest : List Int} (hB : IsBytes q.2) (h : rd_sum q = some (m, rest)) : ∃ y, m = { q.1 with sum := y } ∧ q.2 = sel q.1.kind 109 (bytesOf 8 m.sum) ++ rest ∧ IsBytes rest ∧ ((0 ≤ y ∧ y ≤ 18446744073709551615) ∨ y = q.1.sum) := by
  rcases rdN_inv (get := fun m => m.sum) (fun _ _ => rfl) hB h with ⟨hc, h1, h2, h3, h4, h5⟩ | ⟨hc, h1, h2⟩
  · exact ⟨m.sum, h4, by rw [sel_yes hc]; exact h1, h5, .inl ⟨h2, by have h6 : m.sum < 2 ^ (8 * 8) := h3; omega⟩⟩
  · exact ⟨q.1.sum, h1, by rw [sel_no hc, h2]; rfl, by rw [h2]; exact hB, .inr rfl⟩
theorem fwd_sum (q : M) (m : M) (rest : List Int) (hk : q.kind = m.kind) (hx : (has m.kind).contains 109 = true → 0 ≤ m.sum ∧ m.sum ≤ 18446744073709551615) (h0 : (has m.kind).contains 109 = false → m.sum = q.sum) : rd_sum (q, sel m.kind 109 (bytesOf 8 m.sum) ++ rest) = some ({ q with sum := m.sum }, rest) := by
  unfold rd_sum rdN
  dsimp only
  have hk' : has q.kind = has m.kind := by rw [hk]
  rw [hk']
  cases hc : (has m.kind).contains 109 with
  | true =>
    have := hx hc
    rw [sel_yes hc, if_pos rfl, rdn_bytes, Option.bind_some, Int.emod_eq_of_lt this.1 (by show m.sum < _; omega)]
  | false =>
    rw [sel_no hc, h0 hc, if_neg (by decide)]
    rfl
theorem inv_ins {q : M × List Int} {m : M} {rest : List Int} (hB : IsBytes q.2) (h : rdIns q = some (m, rest)) : ∃ y, m = { q.1 with ins := y } ∧ q.2 = sel q.1.kind 105 (bytesOf 1 (m.ins.length : Int) ++ m.ins.flatMap En.inBytes) ++ rest ∧ IsBytes rest ∧ (((∀ p ∈ y, Gm.tyIn p) ∧ y.length ≤ 255) ∨ y = q.1.ins) := by
  unfold rdIns at h
  split at h
  · rename_i hc
    cases h1 : decL 1 decInW q.2 with
    | none => rw [h1] at h; cases h
    | some a =>
      obtain ⟨l, r⟩ := a
      rw [h1, Option.bind_some] at h
      injection h with h
      injection h with ha hb
      obtain ⟨e1, e2, e3, e4⟩ := decL_inv (f := En.inBytes) (Q := Gm.tyIn) (fun bs v rest hb h => decInW_inv hb h) hB h1
      subst ha hb
      exact ⟨l, rfl, by rw [sel_yes hc]; exact e1, e2, .inl ⟨e3, by have h6 : (l.length : Int) < 256 := e4; omega⟩⟩
  · rename_i hc
    injection h with h
    have hc' : (has q.1.kind).contains 105 = false := by simpa using hc
    exact ⟨q.1.ins, by rw [h], by rw [sel_no hc', h]; rfl, by rw [h] at hB; exact hB, .inr rfl⟩
theorem inv_log {q : M × List Int} {m : M} {rest : List Int} (hB : IsBytes q.2) (h : rdLog q = some (m, rest)) : ∃ y, m = { q.1 with log := y } ∧ q.2 = sel q.1.kind 108 (bytesOf 1 (m.log.length : Int) ++ m.log.flatMap logBytes) ++ rest ∧ IsBytes rest ∧ (((∀ s ∈ y, En.Ok s.e ∧ En.Ty s.e) ∧ y.length ≤ 255) ∨ y = q.1.log) := by
  unfold rdLog at h
  split at h
  · rename_i hc
    cases h1 : decL 1 decEntryW q.2 with
    | none => rw [h1] at h; cases h
    | some a =>
      obtain ⟨l, r⟩ := a
      rw [h1, Option.bind_some] at h
      injection h with h
      injection h with ha hb
      obtain ⟨e1, e2, e3, e4⟩ := decL_inv (f := fun e => logBytes ⟨e, none, 0⟩) (Q := fun e => En.Ok e ∧ En.Ty e) (fun bs v rest hb h => decEntryW_inv hb h) hB h1
      subst ha hb
      refine ⟨_, rfl, ?_, e2, .inl ⟨fun s hs => ?_, ?_⟩⟩
      · rw [sel_yes hc]
        dsimp only
        rw [List.length_map, List.flatMap_map]
        exact e1
      · obtain ⟨e, he, rfl⟩ := List.mem_map.1 hs
        exact e3 e he
      · rw [List.length_map]
        have h6 : (l.length : Int) < 256 := e4
        have h7 : l.length ≤ 255 := by omega
        exact h7
  · rename_i hc
    injection h with h
    have hc' : (has q.1.kind).contains 108 = false := by simpa using hc
    exact ⟨q.1.log, by rw [h], by rw [sel_no hc', h]; rfl, by rw [h] at hB; exact hB, .inr rfl⟩
theorem inv_data {q : M × List Int} {m : M} {rest : List Int} (hB : IsBytes q.2) (h : rdData q = some (m, rest)) : ∃ y, m = { q.1 with data := y } ∧ q.2 = sel q.1.kind 100 (bytesOf 1 (m.data.length : Int) ++ m.data) ++ rest ∧ IsBytes rest ∧ ((IsBytes y ∧ y.length ≤ 255) ∨ y = q.1.data) := by
  unfold rdData at h
  split at h
  · rename_i hc
    cases h1 : getB 1 q.2 with
    | none => rw [h1] at h; cases h
    | some a =>
      obtain ⟨l, r⟩ := a
      rw [h1, Option.bind_some] at h
      injection h with h
      injection h with ha hb
      obtain ⟨e1, e2, e3, e4⟩ := getB_inv hB h1
      subst ha hb
      exact ⟨l, rfl, by rw [sel_yes hc, List.append_assoc]; exact e1, e3, .inl ⟨e2, by have h6 : (l.length : Int) < 256 := e4; omega⟩⟩
  · rename_i hc
    injection h with h
    have hc' : (has q.1.kind).contains 100 = false := by simpa using hc
    exact ⟨q.1.data, by rw [h], by rw [sel_no hc', h]; rfl, by rw [h] at hB; exact hB, .inr rfl⟩
theorem fwd_ins (q : M) (m : M) (rest : List Int) (hk : q.kind = m.kind) (hT : ∀ p ∈ m.ins, Gm.tyIn p) (hx : (has m.kind).contains 105 = true → m.ins.length ≤ 16) (h0 : (has m.kind).contains 105 = false → m.ins = q.ins) : rdIns (q, sel m.kind 105 (bytesOf 1 (m.ins.length : Int) ++ m.ins.flatMap En.inBytes) ++ rest) = some ({ q with ins := m.ins }, rest) := by
  unfold rdIns
  dsimp only
  have hk' : has q.kind = has m.kind := by rw [hk]
  rw [hk']
  cases hc : (has m.kind).contains 105 with
  | true =>
    have := hx hc
    obtain ⟨l', h1, h2, h3⟩ := decL_put (size := 1) (R := fun (a b : Gm.In) => a = b) m.ins rest (show (m.ins.length : Int) < 256 by omega) (fun v hv rest => ⟨v, decInW_put (hT v hv) rest, rfl⟩)
    have e : l' = m.ins := (List.ext_getElem h2.symm fun k h h' => h3 k h h').symm
    rw [sel_yes hc, if_pos rfl, h1, Option.bind_some, e]
  | false =>
    rw [sel_no hc, h0 hc, if_neg (by decide)]
    rfl
theorem fwd_log (q : M) (m : M) (rest : List Int) (hk : q.kind = m.kind) (hT : ∀ s ∈ m.log, En.Ok s.e ∧ En.Ty s.e) (hx : (has m.kind).contains 108 = true → m.log.length ≤ 16) (h0 : (has m.kind).contains 108 = false → m.log = [] ∧ q.log = []) : ∃ L : List En.S, rdLog (q, sel m.kind 108 (bytesOf 1 (m.log.length : Int) ++ m.log.flatMap logBytes) ++ rest) = some ({ q with log := L }, rest) ∧ L.length = m.log.length ∧ ∀ k (h : k < m.log.length) (h' : k < L.length), En.Like m.log[k].e L[k].e := by
  unfold rdLog
  dsimp only
  have hk' : has q.kind = has m.kind := by rw [hk]
  rw [hk']
  cases hc : (has m.kind).contains 108 with
  | true =>
    have := hx hc
    obtain ⟨l', h1, h2, h3⟩ := decL_put (size := 1) (R := fun (a : En.S) (b : En.E) => En.Like a.e b) m.log rest (show (m.log.length : Int) < 256 by omega) (fun v hv rest => decEntryW_put (hT v hv).1 (hT v hv).2 rest)
    refine ⟨l'.map fun e => ⟨e, none, 0⟩, ?_, by rw [List.length_map, h2], fun k h h' => ?_⟩
    · rw [sel_yes hc, if_pos rfl, h1, Option.bind_some]
    · rw [List.getElem_map]
      exact h3 k h (by rw [h2]; exact h)
  | false =>
    obtain ⟨a, b⟩ := h0 hc
    refine ⟨[], ?_, by rw [a], fun k h h' => by rw [a] at h; simp at h⟩
    rw [sel_no hc, if_neg (by decide)]
    obtain ⟨⟩ := q
    dsimp only at b ⊢
    rw [b]
    rfl
theorem fwd_data (q : M) (m : M) (rest : List Int) (hk : q.kind = m.kind) (hx : (has m.kind).contains 100 = true → m.data.length ≤ 64) (h0 : (has m.kind).contains 100 = false → m.data = q.data) : rdData (q, sel m.kind 100 (bytesOf 1 (m.data.length : Int) ++ m.data) ++ rest) = some ({ q with data := m.data }, rest) := by
  unfold rdData
  dsimp only
  have hk' : has q.kind = has m.kind := by rw [hk]
  rw [hk']
  cases hc : (has m.kind).contains 100 with
  | true =>
    have := hx hc
    rw [sel_yes hc, if_pos rfl, List.append_assoc, getB_put (size := 1) (show (m.data.length : Int) < 256 by omega), Option.bind_some]
  | false =>
    rw [sel_no hc, h0 hc, if_neg (by decide)]
    rfl
theorem decMsg_inv {bs rest : List Int} {m : M} (hB : IsBytes bs) (h : decMsg bs = some (m, rest)) : bs = body m ++ rest ∧ Ty m ∧ IsBytes rest ∧ isKind m.kind = true ∧ m.ins.length ≤ 255 ∧ m.log.length ≤ 255 ∧ m.data.length ≤ 255 ∧ ∀ s ∈ m.log, En.Ok s.e := by
  unfold decMsg at h
  obtain ⟨⟨k, r0⟩, k1, h⟩ := Option.bind_eq_some_iff.1 h
  obtain ⟨⟨f, r1⟩, k2, h⟩ := Option.bind_eq_some_iff.1 h
  obtain ⟨⟨s, r2⟩, k3, h⟩ := Option.bind_eq_some_iff.1 h
  obtain ⟨⟨a, r3⟩, k4, h⟩ := Option.bind_eq_some_iff.1 h
  obtain ⟨⟨n, r4⟩, k5, h⟩ := Option.bind_eq_some_iff.1 h
  dsimp only at h k2 k3 k4 k5
  obtain ⟨E1, a1, b1, B1⟩ := rdn_inv hB k1
  obtain ⟨E2, a2, b2, B2⟩ := rdn_inv B1 k2
  obtain ⟨E3, a3, b3, B3⟩ := rdn_inv B2 k3
  obtain ⟨E4, a4, b4, B4⟩ := rdn_inv B3 k4
  obtain ⟨E5, a5, b5, B5⟩ := rdn_inv B4 k5
  split at h
  · rename_i hk
    unfold decParts at h
    obtain ⟨⟨m1, p1⟩, h1, h⟩ := Option.bind_eq_some_iff.1 h
    obtain ⟨⟨m2, p2⟩, h2, h⟩ := Option.bind_eq_some_iff.1 h
    obtain ⟨⟨m3, p3⟩, h3, h⟩ := Option.bind_eq_some_iff.1 h
    obtain ⟨⟨m4, p4⟩, h4, h⟩ := Option.bind_eq_some_iff.1 h
    obtain ⟨⟨m5, p5⟩, h5, h⟩ := Option.bind_eq_some_iff.1 h
    obtain ⟨⟨m6, p6⟩, h6, h⟩ := Option.bind_eq_some_iff.1 h
    obtain ⟨⟨m7, p7⟩, h7, h⟩ := Option.bind_eq_some_iff.1 h
    obtain ⟨⟨m8, p8⟩, h8, h⟩ := Option.bind_eq_some_iff.1 h
    obtain ⟨⟨m9, p9⟩, h9, h⟩ := Option.bind_eq_some_iff.1 h
    obtain ⟨⟨m10, p10⟩, h10, h⟩ := Option.bind_eq_some_iff.1 h
    obtain ⟨y1, e1, g1, c1, z1⟩ := inv_slot (q := (Ms.start k f s a n, r4)) B5 h1
    dsimp only at e1 g1 z1
    obtain ⟨y2, e2, g2, c2, z2⟩ := inv_gen (q := (m1, p1)) c1 h2
    dsimp only at e2 g2 z2
    obtain ⟨y3, e3, g3, c3, z3⟩ := inv_frame (q := (m2, p2)) c2 h3
    dsimp only at e3 g3 z3
    obtain ⟨y4, e4, g4, c4, z4⟩ := inv_code (q := (m3, p3)) c3 h4
    dsimp only at e4 g4 z4
    obtain ⟨y5, e5, g5, c5, z5⟩ := inv_n (q := (m4, p4)) c4 h5
    dsimp only at e5 g5 z5
    obtain ⟨y6, e6, g6, c6, z6⟩ := inv_of (q := (m5, p5)) c5 h6
    dsimp only at e6 g6 z6
    obtain ⟨y7, e7, g7, c7, z7⟩ := inv_bits (q := (m6, p6)) c6 h7
    dsimp only at e7 g7 z7
    obtain ⟨y8, e8, g8, c8, z8⟩ := inv_sum (q := (m7, p7)) c7 h8
    dsimp only at e8 g8 z8
    obtain ⟨y9, e9, g9, c9, z9⟩ := inv_ins (q := (m8, p8)) c8 h9
    dsimp only at e9 g9 z9
    obtain ⟨y10, e10, g10, c10, z10⟩ := inv_log (q := (m9, p9)) c9 h10
    dsimp only at e10 g10 z10
    obtain ⟨y11, e11, g11, c11, z11⟩ := inv_data (q := (m10, p10)) c10 h
    dsimp only at e11 g11 z11
    subst e1 e2 e3 e4 e5 e6 e7 e8 e9 e10 e11
    unfold start at *
    dsimp only at g1 z1 g2 z2 g3 z3 g4 z4 g5 z5 g6 z6 g7 z7 g8 z8 g9 z9 g10 z10 g11 z11 ⊢
    have b1' : k < 256 := b1
    have b2' : f < 256 := b2
    have b3' : s < 65536 := b3
    have b4' : a < 65536 := b4
    have b5' : n < 4294967296 := b5
    refine ⟨?_, ⟨⟨by dsimp only; omega, by dsimp only; omega⟩, ⟨by dsimp only; omega, by dsimp only; omega⟩, ⟨by dsimp only; omega, by dsimp only; omega⟩, ⟨by dsimp only; omega, by dsimp only; omega⟩, ⟨by dsimp only; omega, by dsimp only; omega⟩, ⟨by dsimp only; omega, by dsimp only; omega⟩, ⟨by dsimp only; omega, by dsimp only; omega⟩, ⟨by dsimp only; omega, by dsimp only; omega⟩, ⟨by dsimp only; omega, by dsimp only; omega⟩, ⟨by dsimp only; omega, by dsimp only; omega⟩, ⟨by dsimp only; omega, by dsimp only; omega⟩, ⟨by dsimp only; omega, by dsimp only; omega⟩, ⟨by dsimp only; omega, by dsimp only; omega⟩, ?_, ?_, ?_⟩, c11, hk, ?_, ?_, ?_, ?_⟩
    · rw [body_sel, E1, E2, E3, E4, E5]
      unfold head
      simp only [List.append_assoc]
      rw [g1, g2, g3, g4, g5, g6, g7, g8, g9, g10, g11]
      try simp only [List.append_assoc]
    · rcases z9 with h | h
      · exact h.1
      · rw [h]; intro p hp; cases hp
    · rcases z10 with h | h
      · exact fun s hs => (h.1 s hs).2
      · rw [h]; intro p hp; cases hp
    · rcases z11 with h | h
      · exact h.1
      · rw [h]; intro p hp; cases hp
    · rcases z9 with h | h
      · exact h.2
      · rw [h]; exact Nat.zero_le _
    · rcases z10 with h | h
      · exact h.2
      · rw [h]; exact Nat.zero_le _
    · rcases z11 with h | h
      · exact h.2
      · rw [h]; exact Nat.zero_le _
    · rcases z10 with h | h
      · exact fun s hs => (h.1 s hs).1
      · rw [h]; intro p hp; cases hp
  · cases h
theorem decMsg_log {bs rest : List Int} {m : M} (hB : IsBytes bs) (h : decMsg bs = some (m, rest)) : ∀ s ∈ m.log, En.Ok s.e := (decMsg_inv hB h).2.2.2.2.2.2.2
structure Sim (m n : M) : Prop where
  eq : n = { m with log := n.log }
  len : n.log.length = m.log.length
  log : ∀ k (h : k < m.log.length) (h' : k < n.log.length), En.Like m.log[k].e n.log[k].e
theorem decMsg_put {m : M} (hT : Ty m) (hok : Ok m) (rest : List Int) : ∃ n, decMsg (body m ++ rest) = some (n, rest) ∧ Sim m n := by
  have bd := hok.bd
  have h1 := no1_iff.1 hok.n1
  obtain ⟨hk, hf, bb, _⟩ := h1
  obtain ⟨z115, z103, z102, z99, z110, z111, z98, z109, z105, z108, z100⟩ := bare_iff.1 bb
  have hkind : isKind m.kind = true := by unfold isKind; simp; omega
  have N : ∀ {c : Int} {P : Prop}, ((has m.kind).contains c = true ∨ P) → (has m.kind).contains c = false → P := fun h e => by
    rcases h with h | h
    · rw [e] at h; cases h
    · exact h
  have hlog : ∀ s ∈ m.log, En.Ok s.e ∧ En.Ty s.e := fun s hs => by
    obtain ⟨k, hk, rfl⟩ := List.mem_iff_getElem.1 hs
    exact ⟨(hok.log k hk).1, hT.log _ (List.getElem_mem hk)⟩
  unfold decMsg
  rw [body_sel]
  unfold head
  simp only [List.append_assoc]
  have t1 := hT.serial
  have t2 := hT.ack
  have t3 := hT.seen
  rw [rdn_bytes, Option.bind_some, rdn_bytes, Option.bind_some, rdn_bytes, Option.bind_some, rdn_bytes, Option.bind_some, rdn_bytes, Option.bind_some]
  dsimp only
  rw [Int.emod_eq_of_lt (a := m.kind) (b := 2 ^ (8 * 1)) (by omega) (show m.kind < 256 by omega), Int.emod_eq_of_lt (a := m.frm) (b := 2 ^ (8 * 1)) (by omega) (show m.frm < 256 by omega), Int.emod_eq_of_lt (a := m.serial) (b := 2 ^ (8 * 2)) (by omega) (show m.serial < 65536 by omega), Int.emod_eq_of_lt (a := m.ack) (b := 2 ^ (8 * 2)) (by omega) (show m.ack < 65536 by omega), Int.emod_eq_of_lt (a := m.seen) (b := 2 ^ (8 * 4)) (by omega) (show m.seen < 4294967296 by omega)]
  rw [if_pos hkind]
  unfold decParts start
  rw [fwd_slot (⟨m.kind, m.frm, m.serial, m.ack, m.seen, 0, 0, 0, 0, 0, 0, 0, 0, [], [], []⟩ : M) m _ rfl (fun _ => by have := bd.slot; omega) (N z115), Option.bind_some]
  dsimp only
  rw [fwd_gen (⟨m.kind, m.frm, m.serial, m.ack, m.seen, m.slot, 0, 0, 0, 0, 0, 0, 0, [], [], []⟩ : M) m _ rfl (fun hc => by have := bd.gen (List.contains_iff_mem.1 hc); omega) (N z103), Option.bind_some]
  dsimp only
  rw [fwd_frame (⟨m.kind, m.frm, m.serial, m.ack, m.seen, m.slot, m.gen, 0, 0, 0, 0, 0, 0, [], [], []⟩ : M) m _ rfl (fun _ => by have := bd.frame; omega) (N z102), Option.bind_some]
  dsimp only
  rw [fwd_code (⟨m.kind, m.frm, m.serial, m.ack, m.seen, m.slot, m.gen, m.frame, 0, 0, 0, 0, 0, [], [], []⟩ : M) m _ rfl (fun _ => by have := bd.code; omega) (N z99), Option.bind_some]
  dsimp only
  rw [fwd_n (⟨m.kind, m.frm, m.serial, m.ack, m.seen, m.slot, m.gen, m.frame, m.code, 0, 0, 0, 0, [], [], []⟩ : M) m _ rfl (fun _ => by have := bd.n; omega) (N z110), Option.bind_some]
  dsimp only
  rw [fwd_of (⟨m.kind, m.frm, m.serial, m.ack, m.seen, m.slot, m.gen, m.frame, m.code, m.n, 0, 0, 0, [], [], []⟩ : M) m _ rfl (fun hc => by have := bd.of (List.contains_iff_mem.1 hc); omega) (N z111), Option.bind_some]
  dsimp only
  rw [fwd_bits (⟨m.kind, m.frm, m.serial, m.ack, m.seen, m.slot, m.gen, m.frame, m.code, m.n, m.of, 0, 0, [], [], []⟩ : M) m _ rfl (fun _ => hT.bits) (N z98), Option.bind_some]
  dsimp only
  rw [fwd_sum (⟨m.kind, m.frm, m.serial, m.ack, m.seen, m.slot, m.gen, m.frame, m.code, m.n, m.of, m.bits, 0, [], [], []⟩ : M) m _ rfl (fun _ => hT.sum) (N z109), Option.bind_some]
  dsimp only
  have L : ∀ {α : Type} {l : List α}, (l.length : Int) = 0 → l = [] := fun h => List.eq_nil_of_length_eq_zero (by omega)
  rw [fwd_ins (⟨m.kind, m.frm, m.serial, m.ack, m.seen, m.slot, m.gen, m.frame, m.code, m.n, m.of, m.bits, m.sum, [], [], []⟩ : M) m _ rfl hT.ins (fun hc => bd.ins (List.contains_iff_mem.1 hc)) (fun e => L (N z105 e)), Option.bind_some]
  dsimp only
  obtain ⟨l', g1, g2, g3⟩ := fwd_log (⟨m.kind, m.frm, m.serial, m.ack, m.seen, m.slot, m.gen, m.frame, m.code, m.n, m.of, m.bits, m.sum, m.ins, [], []⟩ : M) m (sel m.kind 100 (bytesOf 1 (m.data.length : Int) ++ m.data) ++ rest) rfl hlog (fun hc => bd.log (List.contains_iff_mem.1 hc)) (fun e => ⟨L (N z108 e), rfl⟩)
  try dsimp only at g1
  first
  | rw [g1, Option.bind_some]
  | (simp only [List.append_assoc] at g1 ⊢; rw [g1, Option.bind_some])
  try dsimp only
  have d1 := fwd_data (⟨m.kind, m.frm, m.serial, m.ack, m.seen, m.slot, m.gen, m.frame, m.code, m.n, m.of, m.bits, m.sum, m.ins, l', []⟩ : M) m rest rfl (fun hc => bd.data (List.contains_iff_mem.1 hc)) (fun e => L (N z100 e))
  try dsimp only at d1
  first
  | rw [d1]
  | (simp only [List.append_assoc] at d1 ⊢; rw [d1])
  exact ⟨_, rfl, ⟨rfl, g2, g3⟩⟩
end Ms
namespace Ms
open Go
def zeroM : Array Value := cells (start 0 0 0 0 0) (.slice none 0 0) (.slice none 0 0) (.slice none 0 0)
theorem zeroM_size : zeroM.size = 16 := rfl
noncomputable def getM (bs : List Int) : Option M := (decMsg bs).bind fun q => if q.2 = [] then (if okB q.1 then some q.1 else none) else none
noncomputable def getW (bs : List Int) : Option M := if bs.length ≤ 1200 then getM (bs.drop 4) else none
def sumB (bs : List Int) : Bool := match Im.rdn 4 bs with
  | some (y, rest) => y == ((Crc.sum rest : Nat) : Int)
  | none => false
theorem plain_ok (m : M) : okB (plain m) = okB m := by
  have e : Ok (plain m) ↔ Ok m := by
    have h1 : no1 (plain m) = no1 m := by unfold no1 bare bareOf plain; simp
    have h2 : no2 (plain m) = no2 m := rfl
    have h3 : no3 (plain m) = no3 m := by unfold no3 plain; simp
    constructor
    · intro h
      refine ⟨h1 ▸ h.n1, h2 ▸ h.n2, h3 ▸ h.n3, h.ins, fun k hk => ?_⟩
      have := h.log k (by unfold plain; simpa using hk)
      simpa [plain] using this
    · intro h
      refine ⟨h1.trans h.n1, h2.trans h.n2, h3.trans h.n3, h.ins, fun k hk => ?_⟩
      have := h.log k (by unfold plain at hk; simpa using hk)
      simpa [plain] using this
  rw [Bool.eq_iff_iff, okB_iff, okB_iff, e]
theorem decMsg_evs {bs rest : List Int} {q : S} (hB : Im.IsBytes bs) (h : decMsg bs = some (plain q.m, rest)) : ∀ s ∈ q.m.log, s.e.evs.length ≤ maxLen := fun s hs => by
  have h2 := decMsg_log hB h
  have := (h2 ⟨s.e, none, 0⟩ (List.mem_map.2 ⟨s, hs, rfl⟩)).count
  unfold maxLen
  dsimp only at this
  omega
theorem plain_ty {m : M} (h : Ty (plain m)) : Ty m :=
  ⟨h.kind, h.frm, h.serial, h.ack, h.seen, h.slot, h.gen, h.frame, h.code, h.n, h.of, h.bits, h.sum, h.ins, fun s hs => h.log ⟨s.e, none, 0⟩ (List.mem_map.2 ⟨s, hs, rfl⟩), h.data⟩
end Ms
namespace Go.Proofs.Ytgmlbimgcifenaa
open Go.RowKit Go.Shelf
theorem msg_zero : (Try.prog.info? 29).map (·.zero) = some (some (.agg Ms.zeroM)) := by kernel_rfl
theorem alloc_msg {ops : Array Oper} {Q : Exit → Act → World → Prop} {o : Oper} {rest : List Oper} {a : Act} {w : World} (hgd : o.guard = none) (ho : o.op = .alloc 29)
    (h : wpList Try.prog ops Q rest (a.put o.dst (.pointer (some ⟨w.heap.size, 0, none⟩))) (w.alloc (.cells Ms.zeroM 29))) : wpList Try.prog ops Q (o :: rest) a w :=
  wpList_alloc_z hgd ho msg_zero rfl h
theorem msg_built : Try.prog.built 29 [] = some Ms.zeroM := by kernel_rfl
theorem msg_zero_one : Ms.zeroM.all (·.oneCell') = true := msg_one ⟨Ms.start 0 0 0 0 0, none, 0, none, 0, none, 0⟩
theorem lies_read {q : Ms.S} {X : World} (h1 : RI q X) (h2 : RL q X) (h3 : RD q X) (l1 : q.m.ins.length ≤ 255) (l2 : q.m.log.length ≤ 255) (l3 : q.m.data.length ≤ 255) (hok : ∀ s ∈ q.m.log, s.e.evs.length ≤ maxLen) : LiesM X X.heap.size q := by
  refine ⟨?_, ⟨?_, ?_, hok⟩, ?_, by unfold maxLen; omega, by unfold maxLen; omega, by unfold maxLen; omega⟩
  · rcases h1 with ⟨a, b, c⟩ | ⟨S, a, b, c⟩
    · rw [a, c]; exact Lies.empty
    · rw [a]; exact Lies.boxed c (by rw [Gm.inCells_len])
  · rcases h2 with ⟨a, b, c⟩ | ⟨S, a, b, c, d⟩
    · rw [a, c]; exact Lies.empty
    · rw [a]; exact Lies.boxed c (by rw [En.sCells_len])
  · intro s hs
    rcases h2 with ⟨a, b, c⟩ | ⟨S, a, b, c, d⟩
    · rw [c] at hs; cases hs
    · obtain ⟨S2, e1, e2, e3⟩ := d s hs
      rw [e1]; exact Lies.boxed e3 (by rw [En.evCells_len])
  · rcases h3 with ⟨a, b, c⟩ | ⟨S, a, b, c⟩
    · rw [a, c]; exact Lies.empty
    · rw [a]; exact Lies.boxed c (by rw [Im.u8s_len]; omega)
theorem RI.keep {q : Ms.S} {X X' : World} (h : RI q X) (hk : ∀ g t cs, Box X g t cs → t ≠ 29 → t ≠ 3 → Box X' g t cs) : RI q X' := by
  rcases h with h | ⟨S, h1, h2, h3⟩
  · exact .inl h
  · exact .inr ⟨S, h1, h2, hk _ _ _ h3 (by decide) (by decide)⟩
theorem RL.keep {q : Ms.S} {X X' : World} (h : RL q X) (hk : ∀ g t cs, Box X g t cs → t ≠ 29 → t ≠ 3 → Box X' g t cs) : RL q X' := by
  rcases h with h | ⟨S, h1, h2, h3, h4⟩
  · exact .inl h
  · refine .inr ⟨S, h1, h2, hk _ _ _ h3 (by decide) (by decide), fun s hs => ?_⟩
    obtain ⟨S2, g1, g2, g3⟩ := h4 s hs
    exact ⟨S2, g1, g2, hk _ _ _ g3 (by decide) (by decide)⟩
theorem RD.keep {q : Ms.S} {X X' : World} (h : RD q X) (hk : ∀ g t cs, Box X g t cs → t ≠ 29 → t ≠ 3 → Box X' g t cs) : RD q X' := by
  rcases h with h | ⟨S, h1, h2, h3⟩
  · exact .inl h
  · exact .inr ⟨S, h1, h2, hk _ _ _ h3 (by decide) (by decide)⟩
theorem RI.below {q : Ms.S} {X X' : World} (h : RI q X) (hb : Below X.heap.size X X') : RI q X' := by
  rcases h with h | ⟨S, h1, h2, h3⟩
  · exact .inl h
  · exact .inr ⟨S, h1, h2, h3.below hb h3.lt⟩
theorem RL.below {q : Ms.S} {X X' : World} (h : RL q X) (hb : Below X.heap.size X X') : RL q X' := by
  rcases h with h | ⟨S, h1, h2, h3, h4⟩
  · exact .inl h
  · refine .inr ⟨S, h1, h2, h3.below hb h3.lt, fun s hs => ?_⟩
    obtain ⟨S2, g1, g2, g3⟩ := h4 s hs
    exact ⟨S2, g1, g2, g3.below hb g3.lt⟩
theorem RD.below {q : Ms.S} {X X' : World} (h : RD q X) (hb : Below X.heap.size X X') : RD q X' := by
  rcases h with h | ⟨S, h1, h2, h3⟩
  · exact .inl h
  · exact .inr ⟨S, h1, h2, h3.below hb h3.lt⟩
theorem wcatch_get (Bw B Bc : Nat) (u : TypeId) (pv : Value) (older : List PanicEntry) (w : World) (z : Int) (hw : Box w Bw 3 #[.int .i64 z]) (Z : Array Value) (hZ : Z.size = 16) (hb : Box w B 29 Z) (y : Int) (hc : Box w Bc 3 #[.int .i64 y]) :
    CallsD Try.prog 40 #[.pointer (some ⟨Bw, 0, none⟩), .pointer (some ⟨B, 0, none⟩), .pointer (some ⟨Bc, 0, none⟩)] (.panicking ({ v := .iface u pv, recovered := false } :: older)) w fun e u' w' =>
      e = .returned (.tuple #[]) ∧ u' = .panicking ({ v := .iface u pv, recovered := true } :: older) ∧ w' = (w.setRow B Ms.zeroM).setCell ⟨Bc, 0, none⟩ (.int .i64 z) := by
  have ne : B ≠ Bc := Box.apart hb hc (by decide)
  have w0 := hw.cell 0
  have HB := qh hb
  have HC := qh (hc.row_far (fun e => ne e.symm) Ms.zeroM)
  have c2 := HC.out.cell 0
  have f2 := HC.out.free 0
  have HZ := qh hZ
  clear hb hc hZ hw
  refine callsD_of_wpS Try.func40 rfl fun c₀ cs hu => ?_
  apply wpS_seq
  apply wpS_region
  simp [wpOpsS, go_sem, recoverD, hu, Try.ntmps40, Exit.thenS]
  refine wpS_cond (t := true) (by simp [Act.eval, Array.replicate]) ?_
  simp only [if_true]
  refine wpS_of_wp ?_
  go_wp2_with (first | (refine wpList_build_is rfl (t := 29) (l := []) (vs := []) rfl rfl msg_built ?_) | ((with_reducible refine blk_gate (t := 29) rfl rfl msg_info16 ?_); apply StoreBlk.mk rfl rfl HB.out msg_zero_one Ms.zeroM_size HZ.out))
  simp [bodyPostS, results, Try.results40]
theorem wcatch_idle_get (o p q : Addr) (w : World) :
    CallsD Try.prog 40 #[.pointer (some o), .pointer (some p), .pointer (some q)] .returning w fun e u' w' => e = .returned (.tuple #[]) ∧ u' = .returning ∧ w' = w := by
  refine callsD_of_wpS Try.func40 rfl fun c₀ cs hu => ?_
  apply wpS_seq
  apply wpS_region
  simp [wpOpsS, go_sem, recoverD, hu, Try.ntmps40, Exit.thenS]
  refine wpS_cond (t := false) (by simp [Act.eval, Array.replicate]) ?_
  simp only [Bool.false_eq_true, if_false]
  refine wpS_of_wp (wp_skip ?_)
  cases c₀
  simp_all [bodyPostS, results, Try.results40]
def SaysGet (bs : List Int) (w : World) (r : Ending) (w' : World) : Prop :=
  (Ms.sumB bs = false ∧ r = .returned (.tuple #[.agg Ms.zeroM, .int .i64 9]) ∧ Below w.heap.size w w') ∨
  (Ms.sumB bs = true ∧ Ms.getW bs = none ∧ r = .returned (.tuple #[.agg Ms.zeroM, .int .i64 2]) ∧ Below w.heap.size w w') ∨
  (Ms.sumB bs = true ∧ ∃ q, Ms.getW bs = some (Ms.plain q.m) ∧ r = .returned (.tuple #[.agg q.cells, .int .i64 0]) ∧ LiesM w' w'.heap.size q ∧ Below w.heap.size w w')
theorem wget_any (bs : List Int) (A : Option Addr) (n c : Nat) (w : World) (hn : n = bs.length) (hn63 : n ≤ maxLen) (hc : n ≤ c) (hBy : Im.IsBytes bs) (hL : Lies w w.heap.size 1 A n (Im.u8s bs)) :
    Calls Try.prog 19 #[.slice A n c] w (SaysGet bs w) := by
  have hmf : ∀ (fn : Fn) (first cap : Array Value) (w : World), (Instr.makeFunc fn first cap).run Try.prog w = .ok (.func fn first cap) w := fun _ _ _ _ => rfl
  obtain ⟨V, hV⟩ : ∃ V, V = ((((((w.alloc (.cells #[.slice A n c] 27)).alloc (.cells Ms.zeroM 29)).alloc (.cells #[.int .i64 0] 3)).alloc (.cells #[.int .i64 9] 3)).alloc (.cells #[.int .u32 0] 23)).alloc (.cells #[.pointer (some ⟨w.heap.size, 0, none⟩)] 68)) := ⟨_, rfl⟩
  have VB := qh (show Box V (w.heap.size) 27 #[.slice A n c] by rw [hV]; exact ((((((Box.made w _ _).alloc _).alloc _).alloc _).alloc _).alloc _))
  have M1 := qh (show Box V (w.heap.size + 1) 29 Ms.zeroM by rw [hV]; exact (((((Box.made_at (n := w.heap.size + 1) (w.alloc (.cells #[.slice A n c] 27)) _ _ (by simp)).alloc _).alloc _).alloc _).alloc _))
  have C1 := qh (show Box V (w.heap.size + 1 + 1) 3 #[.int .i64 0] by rw [hV]; exact ((((Box.made_at (n := w.heap.size + 1 + 1) ((w.alloc (.cells #[.slice A n c] 27)).alloc (.cells Ms.zeroM 29)) _ _ (by simp)).alloc _).alloc _).alloc _))
  have D1 := qh (show Box V (w.heap.size + 1 + 1 + 1) 3 #[.int .i64 9] by rw [hV]; exact (((Box.made_at (n := w.heap.size + 1 + 1 + 1) (((w.alloc (.cells #[.slice A n c] 27)).alloc (.cells Ms.zeroM 29)).alloc (.cells #[.int .i64 0] 3)) _ _ (by simp)).alloc _).alloc _))
  have X1 := qh (show Box V (w.heap.size + 1 + 1 + 1 + 1) 23 #[.int .u32 0] by rw [hV]; exact ((Box.made_at (n := w.heap.size + 1 + 1 + 1 + 1) ((((w.alloc (.cells #[.slice A n c] 27)).alloc (.cells Ms.zeroM 29)).alloc (.cells #[.int .i64 0] 3)).alloc (.cells #[.int .i64 9] 3)) _ _ (by simp)).alloc _))
  have R1 := qh (show Box V (w.heap.size + 1 + 1 + 1 + 1 + 1) 68 #[.pointer (some ⟨w.heap.size, 0, none⟩)] by rw [hV]; exact (Box.made_at (n := w.heap.size + 1 + 1 + 1 + 1 + 1) (((((w.alloc (.cells #[.slice A n c] 27)).alloc (.cells Ms.zeroM 29)).alloc (.cells #[.int .i64 0] 3)).alloc (.cells #[.int .i64 9] 3)).alloc (.cells #[.int .u32 0] 23)) _ _ (by simp)))
  have K1 := qh (show Below w.heap.size w V by rw [hV]; exact ((((((Below.refl w.heap.size w).alloc (Nat.le_refl _) _).alloc (by simp) _).alloc (by simp <;> omega) _).alloc (by simp <;> omega) _).alloc (by simp <;> omega) _).alloc (by simp <;> omega) _)
  have L1 := hL.below K1.out
  have RD1 : Rd w.heap.size w.heap.size (w.heap.size + 1 + 1 + 1 + 1 + 1) bs V := ⟨R1.out, A, c, by rw [← hn]; exact VB.out, by rw [← hn]; exact hc, by rw [← hn]; exact L1⟩
  have c1 := qh (part_u32 4 4 rfl 0 (w.heap.size + 1 + 1 + 1 + 1) 0 23 #[.int .u32 0] bs w.heap.size w.heap.size (w.heap.size + 1 + 1 + 1 + 1 + 1) V (by decide) hBy (Nat.le_refl _) (by omega) K1.out.size RD1 X1.out rfl (by decide) (by decide) (by decide))
  have HY := qh hBy
  have HN := qh hn.symm
  have HV := qh hV.symm
  have N63 := qh hn63
  unfold maxLen at hn63
  clear hn hL L1 RD1 hBy hV
  go_enter_defers Try.func19, Try.ntmps19
  go_upto_region 5 with (first | (with_reducible refine alloc_msg rfl rfl ?_) | (go_at_call 41; ((with_reducible refine (reader_any _ _).mono ?_); rintro e w3 ⟨rfl, rfl⟩)))
  rw [HV.out]
  go_upto_region 6 with (go_at_call 33; ((with_reducible refine (c1.out).mono ?_); rintro r w4 (⟨y, rest, hr, rfl, hI, hK, hB⟩ | ⟨hn, ⟨ss, rfl⟩, hK, cs', hB, hs⟩); (all_goals first | (have R4 := qh hr; have Y4 := qh (Im.rdn_inv HY.out hr); have I4 := qh hI; have X4 := qh hB; have M4 := qh (hK.kb _ _ _ M1.out (by omega) (by decide) (by decide)); have C4 := qh (hK.kb _ _ _ C1.out (by omega) (by decide) (by decide)); have D4 := qh (hK.kb _ _ _ D1.out (by omega) (by decide) (by decide)); have K4 := qh (K1.out.trans hK.below); clear hr hI hK hB c1) | (have N4 := qh hn; have M4 := qh (hK.kb _ _ _ M1.out (by omega) (by decide) (by decide)); have C4 := qh (hK.kb _ _ _ C1.out (by omega) (by decide) (by decide)); have D4 := qh (hK.kb _ _ _ D1.out (by omega) (by decide) (by decide)); have K4 := qh (K1.out.trans hK.below); clear hn hK hB hs c1))))
  rotate_left
  · have hs : Ms.sumB bs = false := by unfold Ms.sumB; rw [N4.out]
    refine leaves_cons (f := 40) (args := #[.pointer (some ⟨w.heap.size + 1 + 1 + 1, 0, none⟩), .pointer (some ⟨w.heap.size + 1, 0, none⟩), .pointer (some ⟨w.heap.size + 1 + 1, 0, none⟩)]) (by simp) (by simp [go_sem]) ?_
    refine (wcatch_get (w.heap.size + 1 + 1 + 1) (w.heap.size + 1) (w.heap.size + 1 + 1) _ _ [] _ _ D4.out _ Ms.zeroM_size M4.out _ C4.out).mono ?_
    rintro r u' w'' ⟨rfl, rfl, rfl⟩
    have B8 := (M4.out.row Ms.zeroM).far (p := ⟨w.heap.size + 1 + 1, 0, none⟩) (show w.heap.size + 1 ≠ w.heap.size + 1 + 1 by omega) (.int .i64 9)
    have C8 := (C4.out.row_far (show w.heap.size + 1 + 1 ≠ w.heap.size + 1 by omega) Ms.zeroM).put 0 (.int .i64 9)
    have K8 := (Below.setRow' (g := w.heap.size + 1) K4.out (Nat.le_succ _) Ms.zeroM).setCell (p := ⟨w.heap.size + 1 + 1, 0, none⟩) (by show w.heap.size ≤ w.heap.size + 1 + 1; omega) (.int .i64 9)
    have hr := fun (tmps : Array Value) h1 h2 => results_cells2 (fn := Try.f19) (p := 2) (q := 3) rfl tmps _ (w.heap.size + 1) (w.heap.size + 1 + 1) 29 Ms.zeroM _ 9 h1 h2 B8 (by simpa using C8) Try.underlying29 rfl (by rw [Ms.zeroM_size]; exact msg_info16)
    show Leaves Try.prog _ _ _ [] .returning _
    exact ⟨_, hr _ rfl rfl, .inl ⟨hs, rfl, K8⟩⟩
  obtain ⟨hp4, A4, c4, hv4, hc4, hl4⟩ := I4.out
  have VB4 := qh hv4
  have HL4 := qh hl4
  have s4 : w.heap.size ≤ w4.heap.size := K4.out.size
  have ln4 : rest.length ≤ 9223372036854775807 := by
    have h1 := congrArg List.length Y4.out.1
    rw [List.length_append, Im.bytesOf_len, HN.out] at h1
    omega
  have cc := fun X (hX : Below w.heap.size w4 X) => qh (wcheck_any rest A4 rest.length c4 X Y4.out.2.2.2 (by unfold maxLen; omega) ((HL4.out.below hX).wider (Nat.le_trans s4 hX.size)))
  clear hp4 hv4 hc4 hl4
  have XB4 := qh (show Box w4 (w.heap.size + 1 + 1 + 1 + 1) 23 #[.int .u32 y] from X4.out)
  have CB := qh (show w4.drew = w4.drew from rfl)
  by_cases hsum : y = ((Crc.sum rest : Nat) : Int)
  · have hs := qh (show Ms.sumB bs = true by unfold Ms.sumB; rw [R4.out]; simpa using hsum)
    have hyb : (y == ((Crc.sum rest : Nat) : Int)) = true := by simpa using hsum
    clear hsum
    refine Rx.wp_region_lex (X := fun _ _ => False) (by kernel_rfl) [] (by kernel_rfl) (· = w4.drew) (fun W => Box W (w.heap.size + 1 + 1 + 1 + 1) 23 #[.int .u32 y] ∧ Box W w.heap.size 27 #[.slice A4 rest.length c4]) (fun _ => True) rfl (fun W hW => ⟨hW ▸ ⟨XB4.out.drew, VB4.out.drew⟩, trivial⟩) (fun _ _ _ _ _ h => h.elim) ?_
    repeat (first
      | (apply Rx.lex_free rfl rfl; focus (intro _; go_simp; first | done | rfl))
      | (apply Rx.lex_look rfl rfl rfl rfl; focus (intro W hW; obtain ⟨hW1, hW2⟩ := hW; have q0 := Box.cell hW1; have q1 := Box.cell hW2; clear hW1 hW2; go_simp; first | done | rfl)))
    refine Rx.lex_call (C' := (· = w4.drew)) (v := .int .u32 ((Crc.sum rest : Nat) : Int)) (f := 23) (args := #[.slice A4 rest.length c4]) rfl ?_ ?_ ?_ ?_
    · intro Z hZ; clear hZ; go_simp; first | done | rfl | exact ⟨rfl, rfl⟩
    · intro Z hZ
      subst hZ
      refine ((cc _ ((one_below' w4).mono s4)).out).mono ?_
      rintro e Z2 ⟨rfl, rfl⟩
      exact .inl ⟨rfl, rfl⟩
    · exact fun Z hZ => ⟨hZ ▸ ⟨XB4.out.drew, VB4.out.drew⟩, trivial⟩
    repeat (first
      | (apply Rx.lex_free rfl rfl; focus (intro _; go_simp; first | done | rfl))
      | (apply Rx.lex_look rfl rfl rfl rfl; focus (intro W hW; obtain ⟨hW1, hW2⟩ := hW; have q0 := Box.cell hW1; have q1 := Box.cell hW2; clear hW1 hW2; go_simp; first | done | rfl)))
    refine Rx.lex_call (C' := (· = w4.drew)) (v := .tuple #[]) (f := 30) (args := #[.bool true, .string ⟨#[115, 112, 111, 105, 108, 116]⟩]) rfl ?_ ?_ ?_ ?_
    · intro Z hZ; clear hZ; go_simp; first | done | rfl | exact ⟨rfl, rfl⟩
    · intro Z hZ
      subst hZ
      refine (need_yes _ _).mono ?_
      rintro e Z2 ⟨rfl, rfl⟩
      exact .inl ⟨rfl, rfl⟩
    · exact fun Z hZ => ⟨hZ ▸ ⟨XB4.out.drew, VB4.out.drew⟩, trivial⟩
    refine Rx.lex_end fun W3 hW3 => ?_
    subst hW3
    simp only [Act.put, List.setIfInBounds_toArray, List.set_cons_succ, List.set_cons_zero]
    have M5 := qh M4.out.drew
    have C5 := qh C4.out.drew
    have D5 := qh D4.out.drew
    have K5 := qh (K4.out.trans ((one_below' w4).mono s4))
    have I5 := qh (I4.out.call (one_below' w4) s4)
    have d5 := D5.out.cell 0
    have g5 := D5.out.free 0
    have s5 : w.heap.size ≤ w4.drew.heap.size := s4
    generalize w4.drew = w5 at *
    clear M4 C4 D4 XB4 VB4 HL4 cc CB s4 I4 X4
    have drop4 := qh (show bs.drop 4 = rest by
      have := Y4.out.1
      rw [this]
      exact (List.drop_left' (Im.bytesOf_len 4 y)))
    have YR := qh Y4.out.2.2.2
    go_upto_region 8 with fail
    obtain ⟨U, hU⟩ : ∃ U, U = w5.setCell ⟨w.heap.size + 1 + 1 + 1, 0, none⟩ (.int .i64 2) := ⟨_, rfl⟩
    have DU := qh (show Box U (w.heap.size + 1 + 1 + 1) 3 #[.int .i64 2] by rw [hU]; exact D5.out.put 0 _)
    have MU := qh (show Box U (w.heap.size + 1) 29 Ms.zeroM by rw [hU]; exact M5.out.far (p := ⟨w.heap.size + 1 + 1 + 1, 0, none⟩) (by show w.heap.size + 1 ≠ w.heap.size + 1 + 1 + 1; omega) _)
    have CU := qh (show Box U (w.heap.size + 1 + 1) 3 #[.int .i64 0] by rw [hU]; exact C5.out.far (p := ⟨w.heap.size + 1 + 1 + 1, 0, none⟩) (by show w.heap.size + 1 + 1 ≠ w.heap.size + 1 + 1 + 1; omega) _)
    have KU := qh (show Below w.heap.size w U by rw [hU]; exact K5.out.setCell (p := ⟨w.heap.size + 1 + 1 + 1, 0, none⟩) (by show w.heap.size ≤ w.heap.size + 1 + 1 + 1; omega) _)
    have IU := qh (show Rd w.heap.size w.heap.size (w.heap.size + 1 + 1 + 1 + 1 + 1) rest U by rw [hU]; exact I5.out.off (p := ⟨w.heap.size + 1 + 1 + 1, 0, none⟩) D5.out (by decide) (by decide) (by show w.heap.size ≤ w.heap.size + 1 + 1 + 1; omega) _)
    rw [← hU]
    have sU := KU.out.size
    have cl := qh (laymsg_r (w.heap.size + 1) rest w.heap.size w.heap.size (w.heap.size + 1 + 1 + 1 + 1 + 1) U YR.out (Nat.le_refl _) (by omega) sU IU.out MU.out)
    have HGW := qh (show Ms.getW bs = if bs.length ≤ 1200 then Ms.getM (bs.drop 4) else none from rfl)
    rw [HN.out, drop4.out] at HGW
    have HGM := qh (show Ms.getM rest = (Ms.decMsg rest).bind fun q => if q.2 = [] then (if Ms.okB q.1 then some q.1 else none) else none from rfl)
    clear hU d5 g5 s5 K5 C5 D5 M5 I5 hyb
    by_cases hle : n ≤ 1200
    · have hle' : (n : Int) ≤ 1200 := by omega
      rw [if_pos hle] at HGW
      go_upto_region 10 with (first | (go_at_call 30; ((with_reducible refine (need_yes _ _).mono ?_); rintro r wn ⟨rfl, rfl⟩)) | (go_at_call 31; ((with_reducible refine (cl.out).mono ?_); rintro r w6 (⟨q, r2, hr, rfl, hy, hI, hB, hri, hrl, hrd, hb, hK⟩ | ⟨hn, ⟨ss, rfl⟩, hb, hK, cs6, hB, hs6⟩); (all_goals first | (have R6 := qh hr; have I6 := qh hI; have M6 := qh hB; have RI6 := qh hri; have RL6 := qh hrl; have RD6 := qh hrd; have C6 := qh (hK _ _ _ CU.out (by omega) (by decide) (by decide)); have D6 := qh (hK _ _ _ DU.out (by omega) (by decide) (by decide)); have K6 := qh (KU.out.trans hb); clear hr hy hI hB hri hrl hrd hb hK cl) | (have N6 := qh hn; have M6 := qh hB; have S6 := qh hs6; have C6 := qh (hK _ _ _ CU.out (by omega) (by decide) (by decide)); have D6 := qh (hK _ _ _ DU.out (by omega) (by decide) (by decide)); have K6 := qh (KU.out.trans hb); clear hn hb hK hB hs6 cl)))))
      rotate_left
      · have hg : Ms.getW bs = none := by rw [HGW.out, HGM.out, N6.out]; rfl
        refine leaves_cons (f := 40) (args := #[.pointer (some ⟨w.heap.size + 1 + 1 + 1, 0, none⟩), .pointer (some ⟨w.heap.size + 1, 0, none⟩), .pointer (some ⟨w.heap.size + 1 + 1, 0, none⟩)]) (by simp) (by simp [go_sem]) ?_
        refine (wcatch_get (w.heap.size + 1 + 1 + 1) (w.heap.size + 1) (w.heap.size + 1 + 1) _ _ [] _ _ D6.out _ S6.out M6.out _ C6.out).mono ?_
        rintro r u' w'' ⟨rfl, rfl, rfl⟩
        have B8 := (M6.out.row Ms.zeroM).far (p := ⟨w.heap.size + 1 + 1, 0, none⟩) (show w.heap.size + 1 ≠ w.heap.size + 1 + 1 by omega) (.int .i64 2)
        have C8 := (C6.out.row_far (show w.heap.size + 1 + 1 ≠ w.heap.size + 1 by omega) Ms.zeroM).put 0 (.int .i64 2)
        have K8 := (Below.setRow' (g := w.heap.size + 1) K6.out (Nat.le_succ _) Ms.zeroM).setCell (p := ⟨w.heap.size + 1 + 1, 0, none⟩) (by show w.heap.size ≤ w.heap.size + 1 + 1; omega) (.int .i64 2)
        have hr := fun (tmps : Array Value) h1 h2 => results_cells2 (fn := Try.f19) (p := 2) (q := 3) rfl tmps _ (w.heap.size + 1) (w.heap.size + 1 + 1) 29 Ms.zeroM _ 2 h1 h2 B8 (by simpa using C8) Try.underlying29 rfl (by rw [Ms.zeroM_size]; exact msg_info16)
        show Leaves Try.prog _ _ _ [] .returning _
        exact ⟨_, hr _ rfl rfl, .inr (.inl ⟨hs.out, hg, rfl, K8⟩)⟩
      obtain ⟨_, A6, c6, hv6, _, _⟩ := I6.out
      have v6 := hv6.cell 0
      obtain ⟨hbody, hty, _, hkd, hl1, hl2, hl3, _⟩ := Ms.decMsg_inv YR.out R6.out
      have HTY := qh (Ms.plain_ty hty)
      have hpl : (Ms.plain q.m).log.length = q.m.log.length := by unfold Ms.plain; simp
      have HB1 := qh (show q.m.ins.length ≤ 255 ∧ q.m.log.length ≤ 255 ∧ q.m.data.length ≤ 255 from ⟨hl1, by omega, hl3⟩)
      have HEV := qh (Ms.decMsg_evs YR.out R6.out)
      clear hv6 hbody hty hkd hl1 hl2 hl3 hpl
      cases hr2 : r2 with
      | cons x xs =>
        have hg : Ms.getW bs = none := by rw [HGW.out, HGM.out, R6.out, Option.bind_some]; dsimp only; rw [hr2, if_neg (by simp)]
        have hl0 : ((r2.length : Int) == 0) = false := by rw [hr2]; simp; omega
        generalize r2.length = m at *
        have HG := qh hg
        clear hr2 hg
        go_wp2_with (go_at_call 30; ((with_reducible refine (need_no _ _).mono ?_); rintro r wn ⟨rfl, rfl⟩))
        refine leaves_cons (f := 40) (args := #[.pointer (some ⟨w.heap.size + 1 + 1 + 1, 0, none⟩), .pointer (some ⟨w.heap.size + 1, 0, none⟩), .pointer (some ⟨w.heap.size + 1 + 1, 0, none⟩)]) (by simp) (by simp [go_sem]) ?_
        refine (wcatch_get (w.heap.size + 1 + 1 + 1) (w.heap.size + 1) (w.heap.size + 1 + 1) _ _ [] _ _ D6.out _ rfl M6.out _ C6.out).mono ?_
        rintro r u' w'' ⟨rfl, rfl, rfl⟩
        have B8 := (M6.out.row Ms.zeroM).far (p := ⟨w.heap.size + 1 + 1, 0, none⟩) (show w.heap.size + 1 ≠ w.heap.size + 1 + 1 by omega) (.int .i64 2)
        have C8 := (C6.out.row_far (show w.heap.size + 1 + 1 ≠ w.heap.size + 1 by omega) Ms.zeroM).put 0 (.int .i64 2)
        have K8 := (Below.setRow' (g := w.heap.size + 1) K6.out (Nat.le_succ _) Ms.zeroM).setCell (p := ⟨w.heap.size + 1 + 1, 0, none⟩) (by show w.heap.size ≤ w.heap.size + 1 + 1; omega) (.int .i64 2)
        have hr := fun (tmps : Array Value) h1 h2 => results_cells2 (fn := Try.f19) (p := 2) (q := 3) rfl tmps _ (w.heap.size + 1) (w.heap.size + 1 + 1) 29 Ms.zeroM _ 2 h1 h2 B8 (by simpa using C8) Try.underlying29 rfl (by rw [Ms.zeroM_size]; exact msg_info16)
        show Leaves Try.prog _ _ _ [] .returning _
        exact ⟨_, hr _ rfl rfl, .inr (.inl ⟨hs.out, HG.out, rfl, K8⟩)⟩
      | nil =>
        rw [hr2] at v6
        have HR2 := qh hr2
        clear hr2
        have LM := qh (lies_read RI6.out RL6.out RD6.out HB1.out.1 HB1.out.2.1 HB1.out.2.2 HEV.out)
        have cm := qh (wmay_any q w6 HTY.out LM.out)
        have HGQ := qh (show Ms.getW bs = if Ms.okB q.m then some (Ms.plain q.m) else none by rw [HGW.out, HGM.out, R6.out, Option.bind_some]; dsimp only; rw [HR2.out, if_pos rfl, Ms.plain_ok])
        cases hok : Ms.okB q.m with
        | false =>
          rw [hok] at cm HGQ
          clear hok
          go_wp2_with (first | (go_at_call 30; first | ((with_reducible refine (need_yes _ _).mono ?_); rintro r wn ⟨rfl, rfl⟩) | ((with_reducible refine (need_no _ _).mono ?_); rintro r wn ⟨rfl, rfl⟩)) | ((with_reducible refine load_at_gate rfl rfl Try.underlying29 rfl msg_info16 ?_); apply LoadAt.mk (cs := q.cells.toList) rfl (fun j v hv => by rw [addr_cell, Nat.zero_add, M6.out.cell]; simpa using hv) rfl; rw [Array.toArray_toList]) | (go_at_call 15; ((with_reducible refine (cm.out).mono ?_); rintro r w7 ⟨rfl, hb⟩; have M7 := qh (M6.out.below hb M6.out.lt); have D7 := qh (D6.out.below hb D6.out.lt); have C7 := qh (C6.out.below hb C6.out.lt); have K7 := qh (K6.out.trans (hb.mono K6.out.size)); clear hb)))
          refine leaves_cons (f := 40) (args := #[.pointer (some ⟨w.heap.size + 1 + 1 + 1, 0, none⟩), .pointer (some ⟨w.heap.size + 1, 0, none⟩), .pointer (some ⟨w.heap.size + 1 + 1, 0, none⟩)]) (by simp) (by simp [go_sem]) ?_
          refine (wcatch_get (w.heap.size + 1 + 1 + 1) (w.heap.size + 1) (w.heap.size + 1 + 1) _ _ [] _ _ D7.out _ rfl M7.out _ C7.out).mono ?_
          rintro r u' w'' ⟨rfl, rfl, rfl⟩
          have B8 := (M7.out.row Ms.zeroM).far (p := ⟨w.heap.size + 1 + 1, 0, none⟩) (show w.heap.size + 1 ≠ w.heap.size + 1 + 1 by omega) (.int .i64 2)
          have C8 := (C7.out.row_far (show w.heap.size + 1 + 1 ≠ w.heap.size + 1 by omega) Ms.zeroM).put 0 (.int .i64 2)
          have K8 := (Below.setRow' (g := w.heap.size + 1) K7.out (Nat.le_succ _) Ms.zeroM).setCell (p := ⟨w.heap.size + 1 + 1, 0, none⟩) (by show w.heap.size ≤ w.heap.size + 1 + 1; omega) (.int .i64 2)
          have hr := fun (tmps : Array Value) h1 h2 => results_cells2 (fn := Try.f19) (p := 2) (q := 3) rfl tmps _ (w.heap.size + 1) (w.heap.size + 1 + 1) 29 Ms.zeroM _ 2 h1 h2 B8 (by simpa using C8) Try.underlying29 rfl (by rw [Ms.zeroM_size]; exact msg_info16)
          show Leaves Try.prog _ _ _ [] .returning _
          exact ⟨_, hr _ rfl rfl, .inr (.inl ⟨hs.out, HGQ.out, rfl, K8⟩)⟩
        | true =>
          rw [hok] at cm HGQ
          clear hok
          go_upto_region 12 with (first | (go_at_call 30; ((with_reducible refine (need_yes _ _).mono ?_); rintro r wn ⟨rfl, rfl⟩)) | ((with_reducible refine load_at_gate rfl rfl Try.underlying29 rfl msg_info16 ?_); apply LoadAt.mk (cs := q.cells.toList) rfl (fun j v hv => by rw [addr_cell, Nat.zero_add, M6.out.cell]; simpa using hv) rfl; rw [Array.toArray_toList]) | (go_at_call 15; ((with_reducible refine (cm.out).mono ?_); rintro r w7 ⟨rfl, hb⟩; have M7 := qh (M6.out.below hb M6.out.lt); have D7 := qh (D6.out.below hb D6.out.lt); have C7 := qh (C6.out.below hb C6.out.lt); have K7 := qh (K6.out.trans (hb.mono K6.out.size)); have RI7 := qh (RI6.out.below hb); have RL7 := qh (RL6.out.below hb); have RD7 := qh (RD6.out.below hb); clear hb)))
          have C8 := qh (C7.out.row_far (show w.heap.size + 1 + 1 ≠ w.heap.size + 1 by omega) q.cells)
          have c8 := C8.out.cell 0
          have f8 := C8.out.free 0
          go_wp2_with (first | ((with_reducible refine load_at_gate rfl rfl Try.underlying29 rfl msg_info16 ?_); apply LoadAt.mk (cs := q.cells.toList) rfl (fun j v hv => by rw [addr_cell, Nat.zero_add, M7.out.cell]; simpa using hv) rfl; rw [Array.toArray_toList]) | ((with_reducible refine blk_gate (t := 29) rfl rfl msg_info16 ?_); apply StoreBlk.mk rfl rfl M7.out (msg_one q) rfl rfl))
          have ne : w.heap.size + 1 ≠ w.heap.size + 1 + 1 := by omega
          have B9 := (M7.out.row q.cells).far (p := ⟨w.heap.size + 1 + 1, 0, none⟩) ne (.int .i64 0)
          have C9 := C8.out.put 0 (.int .i64 0)
          have K9 := (Below.setRow' (g := w.heap.size + 1) K7.out (Nat.le_succ _) q.cells).setCell (p := ⟨w.heap.size + 1 + 1, 0, none⟩) (by show w.heap.size ≤ w.heap.size + 1 + 1; omega) (.int .i64 0)
          have hkeep : ∀ g t cs, Box w7 g t cs → t ≠ 29 → t ≠ 3 → Box ((w7.setRow (w.heap.size + 1) q.cells).setCell ⟨w.heap.size + 1 + 1, 0, none⟩ (.int .i64 0)) g t cs := fun g t cs hg h1 h2 => (hg.row_far (Box.apart hg M7.out h1) q.cells).far (p := ⟨w.heap.size + 1 + 1, 0, none⟩) (Box.apart hg C7.out h2) _
          have LF := lies_read (RI7.out.keep hkeep) (RL7.out.keep hkeep) (RD7.out.keep hkeep) HB1.out.1 HB1.out.2.1 HB1.out.2.2 HEV.out
          refine leaves_cons (f := 40) (args := #[.pointer (some ⟨w.heap.size + 1 + 1 + 1, 0, none⟩), .pointer (some ⟨w.heap.size + 1, 0, none⟩), .pointer (some ⟨w.heap.size + 1 + 1, 0, none⟩)]) (by simp) (by simp [go_sem]) ?_
          refine (wcatch_idle_get _ _ _ _).mono ?_
          rintro r u' w'' ⟨rfl, rfl, rfl⟩
          have hr := fun (tmps : Array Value) h1 h2 => results_cells2 (fn := Try.f19) (p := 2) (q := 3) rfl tmps _ (w.heap.size + 1) (w.heap.size + 1 + 1) 29 q.cells _ 0 h1 h2 B9 (by simpa using C9) Try.underlying29 rfl msg_info16
          show Leaves Try.prog _ _ _ [] .returning _
          exact ⟨_, hr _ rfl rfl, .inr (.inr ⟨hs.out, q, by rw [HGQ.out]; simp, rfl, LF, K9⟩)⟩
    · have hle' : ¬ (n : Int) ≤ 1200 := by omega
      have hg : Ms.getW bs = none := by rw [HGW.out, if_neg hle]
      have HG := qh hg
      clear hg cl
      go_wp2_with (go_at_call 30; ((with_reducible refine (need_no _ _).mono ?_); rintro r wn ⟨rfl, rfl⟩))
      refine leaves_cons (f := 40) (args := #[.pointer (some ⟨w.heap.size + 1 + 1 + 1, 0, none⟩), .pointer (some ⟨w.heap.size + 1, 0, none⟩), .pointer (some ⟨w.heap.size + 1 + 1, 0, none⟩)]) (by simp) (by simp [go_sem]) ?_
      refine (wcatch_get (w.heap.size + 1 + 1 + 1) (w.heap.size + 1) (w.heap.size + 1 + 1) _ _ [] _ _ DU.out _ Ms.zeroM_size MU.out _ CU.out).mono ?_
      rintro r u' w'' ⟨rfl, rfl, rfl⟩
      have B8 := (MU.out.row Ms.zeroM).far (p := ⟨w.heap.size + 1 + 1, 0, none⟩) (show w.heap.size + 1 ≠ w.heap.size + 1 + 1 by omega) (.int .i64 2)
      have C8 := (CU.out.row_far (show w.heap.size + 1 + 1 ≠ w.heap.size + 1 by omega) Ms.zeroM).put 0 (.int .i64 2)
      have K8 := (Below.setRow' (g := w.heap.size + 1) KU.out (Nat.le_succ _) Ms.zeroM).setCell (p := ⟨w.heap.size + 1 + 1, 0, none⟩) (by show w.heap.size ≤ w.heap.size + 1 + 1; omega) (.int .i64 2)
      have hr := fun (tmps : Array Value) h1 h2 => results_cells2 (fn := Try.f19) (p := 2) (q := 3) rfl tmps _ (w.heap.size + 1) (w.heap.size + 1 + 1) 29 Ms.zeroM _ 2 h1 h2 B8 (by simpa using C8) Try.underlying29 rfl (by rw [Ms.zeroM_size]; exact msg_info16)
      show Leaves Try.prog _ _ _ [] .returning _
      exact ⟨_, hr _ rfl rfl, .inr (.inl ⟨hs.out, HG.out, rfl, K8⟩)⟩
  · have hs := qh (show Ms.sumB bs = false by unfold Ms.sumB; rw [R4.out]; simpa using hsum)
    have hyb : (y == ((Crc.sum rest : Nat) : Int)) = false := by simpa using hsum
    clear hsum
    refine Rx.wp_region_lex (X := fun ch Z => Z = w4.drew ∧ ∃ s : ByteArray, ch = [{ v := .iface 9 (.string s), recovered := false }]) (by kernel_rfl) [] (by kernel_rfl) (· = w4.drew) (fun W => Box W (w.heap.size + 1 + 1 + 1 + 1) 23 #[.int .u32 y] ∧ Box W w.heap.size 27 #[.slice A4 rest.length c4]) (fun _ => True) rfl (fun W hW => ⟨hW ▸ ⟨XB4.out.drew, VB4.out.drew⟩, trivial⟩) ?_ ?_
    · rintro a' ha' ht ch Z ⟨rfl, ss, rfl⟩
      have t2 := ht 2 (by simp)
      have t3 := ht 3 (by simp)
      simp only [Exit.then, bodyPostD]
      rw [ha']
      have M5 := qh M4.out.drew
      have C5 := qh C4.out.drew
      have D5 := qh D4.out.drew
      have K5 := qh (K4.out.trans ((one_below' w4).mono s4))
      refine leaves_cons (f := 40) (args := #[.pointer (some ⟨w.heap.size + 1 + 1 + 1, 0, none⟩), .pointer (some ⟨w.heap.size + 1, 0, none⟩), .pointer (some ⟨w.heap.size + 1 + 1, 0, none⟩)]) (by simp) (by simp [go_sem]) ?_
      refine (wcatch_get (w.heap.size + 1 + 1 + 1) (w.heap.size + 1) (w.heap.size + 1 + 1) _ _ [] _ _ D5.out _ Ms.zeroM_size M5.out _ C5.out).mono ?_
      rintro r u' w'' ⟨rfl, rfl, rfl⟩
      have B8 := (M5.out.row Ms.zeroM).far (p := ⟨w.heap.size + 1 + 1, 0, none⟩) (show w.heap.size + 1 ≠ w.heap.size + 1 + 1 by omega) (.int .i64 9)
      have C8 := (C5.out.row_far (show w.heap.size + 1 + 1 ≠ w.heap.size + 1 by omega) Ms.zeroM).put 0 (.int .i64 9)
      have K8 := (Below.setRow' (g := w.heap.size + 1) K5.out (Nat.le_succ _) Ms.zeroM).setCell (p := ⟨w.heap.size + 1 + 1, 0, none⟩) (by show w.heap.size ≤ w.heap.size + 1 + 1; omega) (.int .i64 9)
      have hr := fun (tmps : Array Value) h1 h2 => results_cells2 (fn := Try.f19) (p := 2) (q := 3) rfl tmps _ (w.heap.size + 1) (w.heap.size + 1 + 1) 29 Ms.zeroM _ 9 h1 h2 B8 (by simpa using C8) Try.underlying29 rfl (by rw [Ms.zeroM_size]; exact msg_info16)
      show Leaves Try.prog _ _ _ [] .returning _
      exact ⟨_, hr _ (by rw [Array.getD_eq_getD_getElem?, t2]; rfl) (by rw [Array.getD_eq_getD_getElem?, t3]; rfl), .inl ⟨hs.out, rfl, K8⟩⟩
    repeat (first
      | (apply Rx.lex_free rfl rfl; focus (intro _; go_simp; first | done | rfl))
      | (apply Rx.lex_look rfl rfl rfl rfl; focus (intro W hW; obtain ⟨hW1, hW2⟩ := hW; have q0 := Box.cell hW1; have q1 := Box.cell hW2; clear hW1 hW2; go_simp; first | done | rfl)))
    refine Rx.lex_call (C' := (· = w4.drew)) (v := .int .u32 ((Crc.sum rest : Nat) : Int)) (f := 23) (args := #[.slice A4 rest.length c4]) rfl ?_ ?_ ?_ ?_
    · intro Z hZ; clear hZ; go_simp; first | done | rfl | exact ⟨rfl, rfl⟩
    · intro Z hZ
      subst hZ
      refine ((cc _ ((one_below' w4).mono s4)).out).mono ?_
      rintro e Z2 ⟨rfl, rfl⟩
      exact .inl ⟨rfl, rfl⟩
    · exact fun Z hZ => ⟨hZ ▸ ⟨XB4.out.drew, VB4.out.drew⟩, trivial⟩
    repeat (first
      | (apply Rx.lex_free rfl rfl; focus (intro _; go_simp; first | done | rfl))
      | (apply Rx.lex_look rfl rfl rfl rfl; focus (intro W hW; obtain ⟨hW1, hW2⟩ := hW; have q0 := Box.cell hW1; have q1 := Box.cell hW2; clear hW1 hW2; go_simp; first | done | rfl)))
    refine Rx.lex_call (C' := fun _ => False) (v := .tuple #[]) (f := 30) (args := #[.bool false, .string ⟨#[115, 112, 111, 105, 108, 116]⟩]) rfl ?_ ?_ ?_ ?_
    · intro Z hZ; clear hZ; go_simp; first | done | rfl | exact ⟨rfl, rfl⟩
    · intro Z hZ
      subst hZ
      refine (need_no _ _).mono ?_
      rintro e Z2 ⟨rfl, rfl⟩
      exact .inr ⟨_, rfl, rfl, _, rfl⟩
    · exact fun Z hZ => hZ.elim
    exact Rx.lex_end fun W3 hW3 => hW3.elim
end Go.Proofs.Ytgmlbimgcifenaa
namespace Ms
open Im Go.Proofs.Ytgmlbimgcifenaa
theorem Sim.nums {m n : M} (h : Sim m n) : n.kind = m.kind ∧ n.frm = m.frm ∧ n.serial = m.serial ∧ n.ack = m.ack ∧ n.seen = m.seen ∧ n.slot = m.slot ∧ n.gen = m.gen ∧ n.frame = m.frame ∧ n.code = m.code ∧ n.n = m.n ∧ n.of = m.of ∧ n.bits = m.bits ∧ n.sum = m.sum ∧ n.ins = m.ins ∧ n.data = m.data := by
  have e := h.eq
  rw [e]
  exact ⟨rfl, rfl, rfl, rfl, rfl, rfl, rfl, rfl, rfl, rfl, rfl, rfl, rfl, rfl, rfl⟩
theorem Sim.same {m x : M} (h : Sim m (plain x)) : sameB x m = true := by
  obtain ⟨e1, e2, e3, e4, e5, e6, e7, e8, e9, e10, e11, e12, e13, e14, e15⟩ := h.nums
  have hl := h.len
  have hg := h.log
  simp only [plain] at e1 e2 e3 e4 e5 e6 e7 e8 e9 e10 e11 e12 e13 e14 e15 hl
  rw [List.length_map] at hl
  refine sameB_iff.2 ⟨?_, fun k h1 h2 => ?_, En.frontB_yes ⟨Nat.le_of_eq hl, fun j h1 h2 => ?_⟩⟩
  · unfold differ
    rw [e1, e2, e3, e4, e5, e6, e7, e8, e9, e10, e11, e12, e13, e14, e15, hl]
    simp
  · exact List.getElem_of_eq e14 h1
  · have := hg j h2 (by simpa [plain] using h1)
    simp only [plain, List.getElem_map] at this
    obtain ⟨a, b, c⟩ := this
    exact ⟨a.symm, b.symm, fun i hi => (c i hi).symm⟩
theorem Sim.ok {m n : M} (h : Sim m n) (hok : Ok m) (hn : ∀ s ∈ n.log, En.Ok s.e) : Ok n := by
  obtain ⟨e1, e2, e3, e4, e5, e6, e7, e8, e9, e10, e11, e12, e13, e14, e15⟩ := h.nums
  have hl := h.len
  have hg := h.log
  refine ⟨?_, ?_, ?_, ?_, fun k hk => ⟨hn _ (List.getElem_mem hk), ?_⟩⟩
  · rw [← hok.n1]; unfold no1 bare bareOf; rw [e1, e2, e6, e7, e8, e9, e10, e11, e12, e13, e14, e15, hl]
  · rw [← hok.n2]; unfold no2; rw [e1, e7, e10, e11, e15]
  · rw [← hok.n3]; unfold no3; rw [e1, e14, hl]
  · rw [e14]; exact hok.ins
  · have h1 := (hok.log k (by omega)).2
    have h2 := (hg k (by omega) hk).1
    rw [← h2, h1, e8]
theorem body_plain (m : M) : body (plain m) = body m := by
  unfold body head part
  simp only [plain, List.length_map, List.flatMap_map]
  rfl
theorem put_len (m : M) : (put m).length = 4 + (body m).length := by unfold put; rw [List.length_append, bytesOf_len]
theorem put_drop (m : M) : (put m).drop 4 = body m := by
  unfold put
  rw [List.drop_append_of_le_length (by rw [bytesOf_len]; omega), List.drop_eq_nil_of_le (by rw [bytesOf_len]; omega), List.nil_append]
theorem sum_put {m : M} (hT : Ty m) : sumB (put m) = true := by
  have h := Crc.sum_lt (body_bytes hT)
  unfold sumB put
  rw [rdn_bytes]
  have e : ((Crc.sum (body m) : Nat) : Int) % 2 ^ (8 * 4) = ((Crc.sum (body m) : Nat) : Int) := Int.emod_eq_of_lt (by omega) (by rw [show (2 : Int) ^ (8 * 4) = 4294967296 from by decide]; omega)
  rw [e]
  simp
theorem get_put {m : M} (hT : Ty m) (hok : Ok m) (hl : (put m).length ≤ 1200) : sumB (put m) = true ∧ ∃ n, getW (put m) = some n ∧ Sim m n := by
  refine ⟨sum_put hT, ?_⟩
  obtain ⟨n, h1, h2⟩ := decMsg_put hT hok []
  rw [List.append_nil] at h1
  have hok2 := h2.ok hok (decMsg_log (body_bytes hT) h1)
  refine ⟨n, ?_, h2⟩
  unfold getW getM
  rw [if_pos hl, put_drop, h1]
  show (if ([] : List Int) = [] then (if okB n then some n else none) else none) = some n
  rw [if_pos rfl, if_pos (okB_iff.2 hok2)]
theorem got_put {bs : List Int} {x : M} (hB : IsBytes bs) (hs : sumB bs = true) (h : getW bs = some (plain x)) : put x = bs ∧ Ty x ∧ Ok x ∧ bs.length ≤ 1200 := by
  unfold getW getM at h
  by_cases hl : bs.length ≤ 1200
  · rw [if_pos hl] at h
    obtain ⟨⟨m, rest⟩, h1, h2⟩ := Option.bind_eq_some_iff.1 h
    dsimp only at h2
    by_cases hr : rest = []
    · rw [if_pos hr] at h2
      by_cases ho : okB m = true
      · rw [if_pos ho] at h2
        obtain rfl : m = plain x := Option.some.inj h2
        subst hr
        obtain ⟨b1, b2, _⟩ := decMsg_inv (fun y hy => hB y (List.mem_of_mem_drop hy)) h1
        rw [List.append_nil, body_plain] at b1
        refine ⟨?_, plain_ty b2, okB_iff.1 (by rw [← plain_ok]; exact ho), hl⟩
        unfold sumB at hs
        cases hr : rdn 4 bs with
        | none => rw [hr] at hs; cases hs
        | some p =>
          obtain ⟨y, r⟩ := p
          rw [hr] at hs
          have hy : y = ((Crc.sum r : Nat) : Int) := by simpa using hs
          obtain ⟨c1, _, _, _⟩ := rdn_inv hB hr
          have c2 : bs.drop 4 = r := by
            rw [c1, List.drop_append_of_le_length (by rw [bytesOf_len]; omega), List.drop_eq_nil_of_le (by rw [bytesOf_len]; omega), List.nil_append]
          unfold put
          rw [← b1, c2, ← hy]
          exact c1.symm
      · rw [if_neg ho] at h2; cases h2
    · rw [if_neg hr] at h2; cases h2
  · rw [if_neg hl] at h; cases h
theorem got_back {m x : M} (hT : Ty m) (hok : Ok m) (hl : (put m).length ≤ 1200) (h : getW (put m) = some (plain x)) : sameB x m = true := by
  obtain ⟨_, n, h1, h2⟩ := get_put hT hok hl
  rw [h1] at h
  obtain rfl : n = plain x := Option.some.inj h
  exact h2.same
theorem get_not_none {m : M} (hT : Ty m) (hok : Ok m) (hl : (put m).length ≤ 1200) : getW (put m) ≠ none := by
  obtain ⟨_, n, h1, _⟩ := get_put hT hok hl
  rw [h1]
  exact fun h => by cases h
end Ms