/-
Several texts in one: Zsh Sha Ta Ig Onl Rga Fa Ga Ha Hb Eq.
-/
import Derived.Test.YtbdlpbnfcnhajaaGreatRq3
set_option maxRecDepth 100000
set_option maxHeartbeats 8000000
set_option linter.unusedVariables false
set_option linter.unusedSimpArgs false
namespace Go.Proofs.YtbdlpbnfcnhajaaGreat
open Go.RowKit Go.Shelf
theorem qm5 : (Tryz.prog.info? 72).map (fun i => (i.zero, i.size, i.bytes)) = some (some (Value.agg #[.int .i64 0, .int .i32 0, .int .i32 0, .int .i32 0, .int .i32 0, .int .i64 0]), 6, 32) := by kernel_rfl
theorem qqg : (Tryz.prog.info? 72).map (·.size) = some 6 := by kernel_rfl
theorem qnT (C : List Value) (ys : List (List Int)) (n : Nat) (A : Option Addr) (c size : Nat) (z : Int) (hz : z = size) (P o : Nat) (t : TypeId) (cs : Array Value) (bs : List Int) (b Bb Bp : Nat) (w : World) (hn : ys.length = n) (hn16 : n <= 4096) (hs : size <= 8) (hbB : b <= Bb) (hbP : b <= P) (hbw : b <= w.heap.size) (h : Wr b Bb Bp bs w) (hl : bs.length + size + ys.flatten.length <= 65536) (hP : Box w P t cs)
 (ho : cs[o]? = some (.slice A n c)) (hL : Lies w b 6 A n C) (hone : ∀ u ∈ C, u.oneCell' = true) (h1 : t ≠ 111) (h2 : t ≠ 5) (h3 : t ≠ 139) (hc : qqx 116 72 6 C ys b Bb Bp w) :
 Calls Tryz.prog 115 #[.func (.func 118) #[] #[.pointer (some ⟨Bp, 0, none⟩)], .int .i64 z, .pointer (some ⟨P, o, none⟩), .func (.func 116) #[] #[]] w fun e w' => e = .returned (.tuple #[]) /\ Wr b Bb Bp (bs ++ (Im.bytesOf size n ++ ys.flatten)) w' /\ Below b w w' /\ Kb P w w' /\ VarK Bb P w w' /\ ∃ S, Box w' P t (cs.setIfInBounds o (.slice (some ⟨S, 0, none⟩) n n)) := by
 subst hz
 have k0 := hP.cell o
 rw [ho] at k0
 have ltP := hP.lt
 have hwn : IntKind.u64.wrap (n : Int) = n := by rw [IntKind.wrap_u64]; omega
 have HL := qh (Box.made w 3 #[.int .i64 n])
 have HPA := qh (hP.alloc (.cells #[.int .i64 n] 3))
 have HA := qh (h.alloc (.cells #[.int .i64 n] 3))
 have WA := qh ((Wrote.refl hbB w).alloc (.cells #[.int .i64 n] 3))
 have KA := qh ((Kb.refl (B := P) w).call (qac w (.cells #[.int .i64 n] 3)))
 have VA := qh ((VarK.refl (Bb := Bb) (P := P) w).call (qac w (.cells #[.int .i64 n] 3)))
 have c1 := qh (qb8 size size rfl n w.heap.size 0 3 #[.int .i64 n] bs b Bb Bp _ hs (by omega) hbB HA.out (by omega) HL.out rfl (by decide) (by decide) (by decide))
 rw [hwn] at c1
 have hvar := qh HA.out.qcx
 have HO := qh ho
 have HLs := qh hL
 obtain ⟨i0, hi0, hz0, hz1, hz2⟩ := info_parts qm5
 obtain ⟨Z, hZ⟩ : ∃ Z, Z = madeCells (Value.agg #[.int .i64 0, .int .i32 0, .int .i32 0, .int .i32 0, .int .i32 0, .int .i64 0]).cells (n * 6) := ⟨_, rfl⟩
 have hZs : Z.size = n * 6 := by rw [hZ, size_madeCells]
 have hCs : C.length = n * 6 := hL.len
 have hmk : ∀ W : World, (Instr.makeSlice 31 (.int .i64 (n : Int)) (.int .i64 (n : Int))).run Tryz.prog W = .ok (.slice (some ⟨W.heap.size, 0, none⟩) n n) (W.alloc (.cells Z 72)) := fun W => by
  have := run_make (P := Tryz.prog) W 31 72 i0 _ Tryz.underlying31 hi0 hz0 .i64 .i64 n n (by omega) (Int.le_refl _) (by rw [hz2]; omega) (by omega)
  rw [this, hZ, hz1, Int.toNat_natCast]
 have hcp : ∀ W : World, Lies W W.heap.size 6 A n C -> (Builtin.copy_ #[31, 31] 3 #[.slice (some ⟨W.heap.size, 0, none⟩) n n, .slice A n c]).run Tryz.prog (W.alloc (.cells Z 72)) = .ok (.int .i64 n) (W.alloc (.cells C.toArray 72)) := fun W hW => by
  cases A with
  | none =>
   have hn0 : n = 0 := by
    by_cases h0 : n = 0
    · exact h0
    · obtain ⟨ad, e, _⟩ := hW.start h0
      cases e
   have hl0 : C = [] := List.eq_nil_of_length_eq_zero (by omega)
   have hz : Z = #[] := Array.eq_empty_of_size_eq_zero (by omega)
   have := qgt (P := Tryz.prog) (W.alloc (.cells Z 72)) 31 31 3 72 ⟨W.heap.size, 0, none⟩ n n c Tryz.underlying31 (by rw [Option.isSome_map]; rw [hi0]; rfl)
   rw [hn0] at this ⊢
   rw [hl0]
   rw [hz] at this ⊢
   simpa [goInt] using this
  | some ad =>
   have hc : ∀ j v, C[j]? = some v -> (W.alloc (.cells Z 72)).cell? (ad.add j) = some v := fun j v hv => by
    have hn0 : n ≠ 0 := fun e => by
     have := (List.getElem?_eq_some_iff.1 hv).1
     omega
    exact (hW.below (qac W (.cells Z 72))).cell ad rfl hn0 j v hv
   have := qie (P := Tryz.prog) (W.alloc (.cells Z 72)) 31 31 3 72 6 W.heap.size n n ad n c Z 72 C Tryz.underlying31 qqg (Box.made W _ _).is (by rw [hW.len]; simp) hc (by rw [hW.len, hZs]) hone
   rw [World.setRow_alloc_new] at this
   simpa [goInt] using this
 have NL := qh hn
 have HC := qh hc
 have HCS := qh hCs
 clear h hP ho hL hZ hn hc hCs
 go_enter Tryz.func115, Tryz.ntmps115
 go_upto_region 2 with (go_at_call 112; ((with_reducible refine (c1.out).mono ?_); rintro e w1 ⟨rfl, hI1, hK1⟩; have L1 := HL.out.qbx hK1 hvar.out (by decide) (by decide); have l1 := L1.cell 0; have P1 := qh (HPA.out.qbx hK1 hvar.out h1 h2); have I1 := qh hI1; have K1 := qh (WA.out.trans hK1); have B1 := qh (KA.out.wrote hK1 hvar.out); have V1 := qh (VA.out.wrote hK1); clear hI1 hK1 L1 k0))
 have lw1 := (HLs.out.below (K1.out.to hbw))
 have hcpw := hcp w1 (lw1.wider (Nat.le_trans hbw K1.out.size))
 have p58 : ∀ x, (w1.alloc x).cell? ⟨P, o, none⟩ = some (.slice A n c) := fun x => ((P1.out.alloc x).cell o).trans HO.out
 have sz1 : w.heap.size <= w1.heap.size := K1.out.size
 clear hcp lw1 HLs HL HPA HA WA KA VA c1
 go_upto_region 4 with fail
 obtain ⟨U, hU⟩ : ∃ U, U = w1.alloc (.cells C.toArray 72) := ⟨_, rfl⟩
 have PU : Box U P t cs := by rw [hU]; exact P1.out.alloc _
 have SU : Box U w1.heap.size 72 C.toArray := by rw [hU]; exact Box.made w1 _ _
 have IU : Wr b Bb Bp (bs ++ Im.bytesOf size n) U := by rw [hU]; exact I1.out.alloc _
 have BU : Below b w U := by rw [hU]; exact (K1.out.to hbw).alloc (Nat.le_trans hbw sz1) _
 have KU : Kb P w U := by rw [hU]; exact B1.out.call (qac _ _)
 have VU : VarK Bb P w U := by rw [hU]; exact V1.out.call (qac _ _)
 have hSP : w1.heap.size ≠ P := by have := P1.out.lt; omega
 have hbS : b <= w1.heap.size := Nat.le_trans hbw sz1
 have hSw : w.heap.size <= w1.heap.size := sz1
 rw [<- hU]
 generalize w1.heap.size = S at *
 have IU := qh IU
 have PU := qh PU
 have SU := qh SU
 have BU := qh BU
 have KU := qh KU
 have VU := qh VU
 clear hU I1 K1 P1 B1 V1 p58 hcpw hmk l1 hvar sz1
 go_upto_region 5 with fail
 go_loopw [10, 27] (fun _ i wr => ∃ k : Nat, k <= n /\ i = .int .i64 k /\ Wr b Bb Bp (bs ++ Im.bytesOf size n ++ (ys.take k).flatten) wr /\ Below b U wr /\ Kb S U wr /\ VarK Bb S U wr /\ ∃ Y, Box wr S 72 Y /\ Y.size = C.length /\ ∀ j, k * 6 <= j -> Y[j]? = C[j]?) (fun _ i _ => n - (intOf i).toNat)
 case atStart => exact ⟨0, by omega, rfl, by simpa using IU.out, Below.refl _ _, Kb.refl _, VarK.refl _, _, SU.out, by simp, fun j _ => by simp⟩
 case round =>
  obtain ⟨k, hk, rfl, hI, hB, hK, hVK, Y, hY, hYs, hYc⟩ := hrel
  by_cases hlt : k < n
  · have hk8 : (k : Int) < n := by omega
    have hkl : k < ys.length := by have := NL.out; omega
    have ht := Im.qgS hkl
    have hle := Im.qqc ys (k + 1)
    rw [ht, List.length_append] at hle
    have HT := qh ht
    have cc := qh (HC.out k S wr Y (bs ++ Im.bytesOf size n ++ (ys.take k).flatten) hkl (BU.out.trans hB) hbS hI (by rw [List.length_append, List.length_append, Im.qas]; omega) hY (fun j hj => hYc _ (by omega)))
    have HB := qh hB
    have HK := qh hK
    have HVK := qh hVK
    have HYs := qh hYs
    have HYc := qh hYc
    clear ht hle hI hB hK hVK hYs hYc hY
    go_wp2_with (go_at_call 116; ((with_reducible refine (cc.out).mono ?_); rintro e w3 ⟨rfl, hI, hB, hK, hVK, Y', hY, hYs, hYc⟩; have V3 := qh (HVK.out.trans hVK); have I3 := qh hI; have B3 := qh (HB.out.trans hB); have K3 := qh (HK.out.trans hK); have Y3 := qh hY; have Z3 := qh (hYs.trans HYs.out); have C3 := qh hYc; clear hI hB hK hVK hY hYs hYc))
    go_roundw
    case rel => exact ⟨k + 1, by omega, by go_num, by rw [HT.out, <- List.append_assoc]; exact I3.out, B3.out, K3.out, V3.out, Y', Y3.out, Z3.out, fun j hj => by rw [C3.out j (by omega)]; exact HYc.out j (by omega)⟩
    case measure => simp [intOf]; omega
  · have hk8 : ¬ (k : Int) < n := by omega
    obtain rfl : k = n := by omega
    have ht : ys.take k = ys := List.take_of_length_le (by have := NL.out; omega)
    rw [ht] at hI
    have HI := qh hI
    have HK := qh hK
    have HB := qh hB
    have HVK := qh hVK
    have PW := qh (hK P t cs PU.out hSP.symm h1 h2)
    have pc : wr.cell? ⟨P, o, none⟩ = some (.slice A k c) := (PW.out.cell o).trans HO.out
    have pf : wr.frozen? ⟨P, o, none⟩ = false := PW.out.free o
    clear hI hK hB hVK hY hYs hYc
    go_wp2
    go_end0
    exact ⟨rfl, by rw [<- List.append_assoc]; exact HI.out.off (p := ⟨P, o, none⟩) PW.out h3 h1 h2 _, (BU.out.trans HB.out).setCell hbP _, (KU.out.fresh HK.out hSw).put o _, (VU.out.fresh HVK.out hSw).put o _, S, PW.out.put o _⟩
theorem qnV (s : Gm.Shot) (hok : Gm.qa5 s) (P o : Nat) (t : TypeId) (cs : Array Value) (bk : List Int) (b Bb Bp : Nat) (w : World) (hbB : b <= Bb) (h : Wr b Bb Bp bk w) (hl : bk.length + 18 <= 65536) (hP : Box w P t cs)
 (sc : ∀ j, j < 6 -> cs[o + j]? = s.cells[j]?) (h1 : t ≠ 111) (h2 : t ≠ 5) (h3 : t ≠ 139) :
 Calls Tryz.prog 116 #[.func (.func 118) #[] #[.pointer (some ⟨Bp, 0, none⟩)], .pointer (some ⟨P, o, none⟩)] w fun e w' => e = .returned (.tuple #[]) /\ Wr b Bb Bp (bk ++ Im.shot s) w' /\ Wrote b Bb w w' := by
 obtain ⟨owner, x, y, vx, vy, left⟩ := s
 have s0 := sc 0 (by omega)
 have s1 := sc 1 (by omega)
 have s2 := sc 2 (by omega)
 have s3 := sc 3 (by omega)
 have s4 := sc 4 (by omega)
 have s5 := sc 5 (by omega)
 simp only [Gm.Shot.cells, List.getElem?_cons_zero, List.getElem?_cons_succ, Nat.add_zero] at s0 s1 s2 s3 s4 s5
 obtain ⟨w0, w1', ⟨w2, w2'⟩, ⟨w3, w3'⟩, ⟨w4, w4'⟩, ⟨w5, w5'⟩, w6, w6'⟩ := hok
 dsimp only at w0 w1' w2 w2' w3 w3' w4 w4' w5 w5' w6 w6'
 have HSN := qh (show bk ++ Im.shot ⟨owner, x, y, vx, vy, left⟩ = bk ++ Im.bytesOf 1 owner ++ Im.flight (fun k => match k with | 0 => x | 1 => y | 2 => vx | _ => vy) 4 ++ Im.bytesOf 1 left from (show ∀ a b c d : List Int, a ++ (b ++ (c ++ d)) = a ++ b ++ c ++ d from fun a b c d => by simp) _ _ _ _)
 have hwo : IntKind.u64.wrap owner = owner := by rw [IntKind.wrap_u64]; omega
 have hwl : IntKind.u64.wrap left = left := by rw [IntKind.wrap_u64]; omega
 have P2 := qh hP
 have IV2 := qh h.qcx
 have ltP := hP.lt
 have c3 := qh (qb8 1 1 rfl owner P o t cs bk b Bb Bp w (by decide) (by omega) hbB h (by omega) P2.out s0 h1 h2 h3)
 rw [hwo] at c3
 have p2 := P2.out.cell
 clear sc h hwo hP
 go_enter Tryz.func116, Tryz.ntmps116
 go_upto_region 1 with (go_at_call 112; ((with_reducible refine (c3.out).mono ?_); rintro e w3 ⟨rfl, hI, hK⟩; have P3 := qh (P2.out.qbx hK IV2.out h1 h2); have p3 := P3.out.cell; have IV3 := qh hI.qcx; have I3 := qh hI; have K3 := qh hK; clear hI hK))
 have lf := Im.qcH (fun k => match k with | 0 => x | 1 => y | 2 => vx | _ => vy) 4
 have cf := fun X (hX : Wr b Bb Bp (bk ++ Im.bytesOf 1 owner) X) (hB : Box X P t cs) Bq hq => qh (qgK (fun k => match k with | 0 => x | 1 => y | 2 => vx | _ => vy) (fun j => o + 1 + j) P Bq t cs (bk ++ Im.bytesOf 1 owner) b Bb Bp X (fun k hk => by
  match k, hk with
  | 0, _ => exact (show -2147483648 <= x /\ x <= 2147483647 by omega)
  | 1, _ => exact (show -2147483648 <= y /\ y <= 2147483647 by omega)
  | 2, _ => exact (show -2147483648 <= vx /\ vx <= 2147483647 by omega)
  | 3, _ => exact (show -2147483648 <= vy /\ vy <= 2147483647 by omega)) hbB hX (by rw [List.length_append, Im.qas]; omega) hB (fun k hk => by
  match k, hk with
  | 0, _ => exact s1
  | 1, _ => exact s2
  | 2, _ => exact s3
  | 3, _ => exact s4) h1 h2 h3 hq 4)
 refine Ry.qaU (by kernel_rfl) [] (by kernel_rfl) (· = w3.drew) (fun _ => True) (fun _ => True) rfl (fun W hW => ⟨trivial, trivial⟩) ?_
 repeat (first
  | (apply Ry.qat rfl rfl; focus (intro _; go_simp; first | done | rfl))
  | (apply Ry.qbR rfl rfl rfl rfl; focus (intro W hW; clear hW; go_simp; first | done | rfl)))
 refine Ry.qdy rfl (W' := w3.drew.alloc (.cells #[.pointer (some ⟨P, o + 1, none⟩), .pointer (some ⟨P, o + 2, none⟩), .pointer (some ⟨P, o + 3, none⟩), .pointer (some ⟨P, o + 4, none⟩)] 181)) (v := .slice (some ⟨w3.drew.heap.size, 0, none⟩) 4 4) ?_ ⟨trivial, trivial⟩ ?_
 focus (go_simp; first | done | rfl)
 refine Ry.qbs (C' := fun Z => Wr b Bb Bp (bk ++ Im.bytesOf 1 owner ++ Im.flight (fun k => match k with | 0 => x | 1 => y | 2 => vx | _ => vy) 4) Z /\ Wrote b Bb w Z /\ Box Z P t cs) (v := .tuple #[]) (f := 139) (args := #[.func (.func 118) #[] #[.pointer (some ⟨Bp, 0, none⟩)], .slice (some ⟨w3.drew.heap.size, 0, none⟩) 4 4]) rfl ?_ ?_ ?_ ?_
 · intro Z hZ; clear hZ; go_simp; first | done | rfl | exact ⟨rfl, rfl⟩
 · intro Z hZ
   subst hZ
   have hW := (I3.out.call (qhK w3)).alloc (.cells #[.pointer (some ⟨P, o + 1, none⟩), .pointer (some ⟨P, o + 2, none⟩), .pointer (some ⟨P, o + 3, none⟩), .pointer (some ⟨P, o + 4, none⟩)] 181)
   refine (cf _ hW (P3.out.drew.alloc _) w3.drew.heap.size (Box.made _ _ _)).out.mono ?_
   rintro e Z2 ⟨rfl, hI2, hK2⟩
   exact ⟨rfl, hI2, (K3.out.drew.alloc _).trans hK2, (P3.out.drew.alloc _).qbx hK2 hW.qcx h1 h2⟩
 · exact fun Z hZ => ⟨trivial, trivial⟩
 refine Ry.qbJ fun W4 hW4 => ?_
 obtain ⟨hI4, hK4, hP4⟩ := hW4
 have P4 := qh hP4
 have p4 := P4.out.cell
 have IV4 := qh hI4.qcx
 have K4 := qh hK4
 have c5 := qh (qb8 1 1 rfl left P (o + 5) t _ _ b Bb Bp W4 (by decide) (by omega) hbB hI4 (by rw [List.length_append, List.length_append, Im.qas, lf]; omega) hP4 s5 h1 h2 h3)
 rw [hwl] at c5
 generalize Im.flight (fun k => match k with | 0 => x | 1 => y | 2 => vx | _ => vy) 4 = FL at *
 clear hI4 hK4 hP4 cf lf hwl s0 s1 s2 s3 s4 s5 p3 p2 c3
 go_wp2_with (go_at_call 112; ((with_reducible refine (c5.out).mono ?_); rintro e w5 ⟨rfl, hI, hK⟩; have P5 := qh (P4.out.qbx hK IV4.out h1 h2); have IV5 := qh hI.qcx; have I5 := qh hI; have K5 := qh (K4.out.trans hK); clear hI hK))
 go_end0
 exact ⟨rfl, by rw [HSN.out]; exact I5.out, K5.out⟩
theorem qmU (l : List Gm.Shot) (hok : ∀ s ∈ l, Gm.qa5 s) (b Bb Bp : Nat) (w : World) (hbB : b <= Bb) (hbw : b <= w.heap.size) : qqx 116 72 6 (Gm.qab l) (l.map Im.shot) b Bb Bp w := by
 intro k S X Y bs hk hB hbS hI hl hY hc
 rw [List.length_map] at hk
 have e : (l.map Im.shot).getD k [] = Im.shot l[k] := by simp [hk]
 rw [e] at hl ⊢
 have ok := hok l[k] (List.getElem_mem hk)
 have sc : ∀ j, j < 6 -> Y[k * 6 + j]? = (l[k]).cells[j]? := fun j hj => by rw [hc j hj]; exact Gm.qbq l k j hk hj
 rw [Im.qll] at hl
 refine (qnV l[k] ok S (k * 6) 72 Y bs b Bb Bp X hbB hI hl hY sc (by decide) (by decide) (by decide)).mono ?_
 rintro e w' ⟨rfl, h1, h2⟩
 have hv := hI.qcx
 exact ⟨rfl, h1, h2.to (Nat.le_trans hbw hB.size), (Kb.refl X).wrote h2 hv, (VarK.refl X).wrote h2, Y, hY.qbx h2 hv (by decide) (by decide), rfl, fun _ _ => rfl⟩
theorem qmF (l : List Gm.Shot) (n : Nat) (A : Option Addr) (c B : Nat) (t : TypeId) (cs : Array Value) (bs : List Int) (b Bb Bp : Nat) (w : World) (hn : n = l.length) (hn32 : n <= 32) (hok : ∀ s ∈ l, Gm.qa5 s) (hbB : b <= Bb) (hbP : b <= B) (hbw : b <= w.heap.size) (h : Wr b Bb Bp bs w) (hl : bs.length + 1 + 18 * 32 <= 65536) (hP : Box w B t cs)
 (ho : cs[58]? = some (.slice A n c)) (hL : Lies w b 6 A n (Gm.qab l)) (h1 : t ≠ 111) (h2 : t ≠ 5) (h3 : t ≠ 139) (h4 : t ≠ 72) :
 Calls Tryz.prog 115 #[.func (.func 118) #[] #[.pointer (some ⟨Bp, 0, none⟩)], .int .i64 1, .pointer (some ⟨B, 58, none⟩), .func (.func 116) #[] #[]] w fun e w' => e = .returned (.tuple #[]) /\ Wr b Bb Bp (bs ++ (Im.bytesOf 1 n ++ Im.qaa l)) w' /\ Below b w w' /\ Kb B w w' /\ ∃ S, Box w' B t (cs.setIfInBounds 58 (.slice (some ⟨S, 0, none⟩) n n)) := by
 have he := Im.qge l
 have hf : (l.map Im.shot).flatten = Im.qaa l := rfl
 refine (qnT (Gm.qab l) (l.map Im.shot) n A c 1 1 rfl B 58 t cs bs b Bb Bp w (by rw [List.length_map, hn]) (by omega) (by decide) hbB hbP hbw h (by rw [hf]; omega) hP ho hL (qbA l) h1 h2 h3 (qmU l hok b Bb Bp w hbB hbw)).mono ?_
 rintro e w' ⟨rfl, h1, h2, h3, _, h4⟩
 exact ⟨rfl, h1, h2, h3, h4⟩
end Go.Proofs.YtbdlpbnfcnhajaaGreat
namespace Ros
open Go
structure R where
 version : Int
 peer : Nat -> Int
 gen : Nat -> Int
def pair (r : R) (k : Nat) : List Value := [.int .i64 (r.peer k), .int .i64 (r.gen k)]
def qbl (r : R) : List Value := pair r 0 ++ (pair r 1 ++ (pair r 2 ++ (pair r 3 ++ (pair r 4 ++ (pair r 5 ++ (pair r 6 ++ pair r 7))))))
def cells (r : R) : Array Value := (Value.int .i64 r.version :: qbl r).toArray
theorem qag (r : R) : (cells r).size = 17 := rfl
theorem qaS (r : R) : (cells r)[0]? = some (.int .i64 r.version) := rfl
theorem qaB (r : R) (k : Nat) (hk : k < 8) : (cells r)[1 + k * 2]? = some (.int .i64 (r.peer k)) := by
 match k, hk with
 | 0, _ | 1, _ | 2, _ | 3, _ | 4, _ | 5, _ | 6, _ | 7, _ => rfl
theorem qaV (r : R) (k : Nat) (hk : k < 8) : (cells r)[1 + k * 2 + 1]? = some (.int .i64 (r.gen k)) := by
 match k, hk with
 | 0, _ | 1, _ | 2, _ | 3, _ | 4, _ | 5, _ | 6, _ | 7, _ => rfl
def upd (f : Nat -> Int) (i : Nat) (v : Int) : Nat -> Int := fun j => if j = i then v else f j
theorem upd_same (f : Nat -> Int) (i : Nat) (v : Int) : upd f i v i = v := by unfold upd; rw [if_pos rfl]
theorem qbp (f : Nat -> Int) {i j : Nat} (v : Int) (h : j ≠ i) : upd f i v j = f j := by unfold upd; rw [if_neg h]
theorem qmV (r : R) (v : Int) : (cells r).setIfInBounds 0 (.int .i64 v) = cells { r with version := v } := rfl
theorem qfo (r : R) (k : Nat) (hk : k < 8) (v : Int) : (cells r).setIfInBounds (1 + k * 2) (.int .i64 v) = cells { r with peer := upd r.peer k v } := by
 unfold cells
 rw [List.setIfInBounds_toArray]
 match k, hk with
 | 0, _ | 1, _ | 2, _ | 3, _ | 4, _ | 5, _ | 6, _ | 7, _ => rfl
theorem qmW (r : R) (k : Nat) (hk : k < 8) (v : Int) : (cells r).setIfInBounds (1 + k * 2 + 1) (.int .i64 v) = cells { r with gen := upd r.gen k v } := by
 unfold cells
 rw [List.setIfInBounds_toArray]
 match k, hk with
 | 0, _ | 1, _ | 2, _ | 3, _ | 4, _ | 5, _ | 6, _ | 7, _ => rfl
theorem qhU (r : R) : ∀ v ∈ (cells r).toList, ∃ n : Int, v = .int .i64 n := by
 intro v hv
 simp only [cells, qbl, pair, List.mem_cons, List.mem_append, List.not_mem_nil, or_false] at hv
 rcases hv with rfl | hv
 · exact ⟨_, rfl⟩
 · rcases hv with hv | hv | hv | hv | hv | hv | hv | hv <;> (rcases hv with rfl | rfl <;> exact ⟨_, rfl⟩)
theorem qlb {r s : R} (hv : r.version = s.version) (hp : ∀ k, k < 8 -> r.peer k = s.peer k) (hg : ∀ k, k < 8 -> r.gen k = s.gen k) : cells r = cells s := by
 unfold cells qbl pair
 rw [hv, hp 0 (by omega), hp 1 (by omega), hp 2 (by omega), hp 3 (by omega), hp 4 (by omega), hp 5 (by omega), hp 6 (by omega), hp 7 (by omega),
  hg 0 (by omega), hg 1 (by omega), hg 2 (by omega), hg 3 (by omega), hg 4 (by omega), hg 5 (by omega), hg 6 (by omega), hg 7 (by omega)]
abbrev Sl := { k : Nat // k < 8 }
def slots : Nat -> Nat -> List Sl
 | 0, _ => []
 | n + 1, i => if h : i < 8 then ⟨i, h⟩ :: slots n (i + 1) else []
abbrev all8 : List Sl := slots 8 0
theorem qnp {n i : Nat} (h : i < 8) : slots (n + 1) i = ⟨i, h⟩ :: slots n (i + 1) := by
 show (if _ : _ then _ else _) = _; rw [dif_pos h]
theorem qiZ : ∀ n i, (slots n i).length <= n
 | 0, _ => Nat.le_refl _
 | n + 1, i => by
  unfold slots
  split
  · have := qiZ n (i + 1); simp; omega
  · simp
theorem qli : all8 = [⟨0, by omega⟩, ⟨1, by omega⟩, ⟨2, by omega⟩, ⟨3, by omega⟩, ⟨4, by omega⟩, ⟨5, by omega⟩, ⟨6, by omega⟩, ⟨7, by omega⟩] := rfl
theorem qlB (k : Nat) (hk : k < 8) : (⟨k, hk⟩ : Sl) ∈ all8 := by
 rw [qli]
 match k, hk with
 | 0, _ | 1, _ | 2, _ | 3, _ | 4, _ | 5, _ | 6, _ | 7, _ => simp
def qej (r : R) (k : Nat) : Prop := (0 <= r.gen k /\ r.gen k <= 60000) /\ (r.peer k = -1 \/ ((0 <= r.peer k /\ r.peer k < 12) /\ 0 < r.gen k))
def Good (r : R) (l : List Sl) : Prop := (∀ y ∈ l, qej r y.1) /\ l.Pairwise (fun a b => r.peer a.1 = -1 \/ r.peer a.1 ≠ r.peer b.1)
def Ok (r : R) : Prop := (0 <= r.version /\ r.version <= 1073741824) /\ Good r all8
instance (r : R) (k : Nat) : Decidable (qej r k) := by unfold qej; infer_instance
instance (r : R) (l : List Sl) : Decidable (Good r l) := by unfold Good; infer_instance
instance (r : R) : Decidable (Ok r) := by unfold Ok; infer_instance
def may (r : R) : Bool := decide (Ok r)
theorem qpe (r : R) : Good r [] := ⟨by simp, .nil⟩
theorem qeS {r : R} {l : List Sl} {x : Sl} : Good r (l ++ [x]) ↔ Good r l /\ qej r x.1 /\ ∀ y ∈ l, r.peer y.1 = -1 \/ r.peer y.1 ≠ r.peer x.1 := by
 unfold Good
 rw [List.pairwise_append]
 simp only [List.mem_append, List.mem_singleton, List.pairwise_cons, List.not_mem_nil, false_imp_iff, implies_true, List.Pairwise.nil, and_true, true_and]
 constructor
 · rintro ⟨h1, h2, h3⟩
   exact ⟨⟨fun y hy => h1 y (.inl hy), h2⟩, h1 x (.inr rfl), fun y hy => h3 y hy x rfl⟩
 · rintro ⟨⟨h1, h2⟩, h3, h4⟩
   refine ⟨?_, h2, ?_⟩
   · rintro y (hy | rfl)
     · exact h1 y hy
     · exact h3
   · rintro y hy z rfl
     exact h4 y hy
theorem qmI {r : R} {l m : List Sl} (h : Good r (l ++ m)) : Good r l := by
 unfold Good at *
 exact ⟨fun y hy => h.1 y (by simp [hy]), (List.pairwise_append.1 h.2).1⟩
def hasF (r : R) (l : List Sl) (p : Nat) : Bool := l.any fun y => decide (r.peer y.1 = (p : Int))
theorem qp9 {r : R} {l : List Sl} {x : Sl} (h : r.peer x.1 = -1) (p : Nat) : hasF r (l ++ [x]) p = hasF r l p := by
 unfold hasF
 rw [List.any_append]
 simp [h]
 try (intro hp; omega)
theorem qpd {r : R} {l : List Sl} {x : Sl} {p : Nat} (h : r.peer x.1 = (p : Int)) (q : Nat) : hasF r (l ++ [x]) q = if q = p then true else hasF r l q := by
 unfold hasF
 rw [List.any_append]
 by_cases e : q = p
 · subst e; simp [h]
 · have e' : ¬ (p : Int) = (q : Int) := by omega
   simp [h, e, e']
theorem qlH {r : R} {l : List Sl} {p : Nat} : hasF r l p = false ↔ ∀ y ∈ l, r.peer y.1 ≠ (p : Int) := by
 unfold hasF
 rw [List.any_eq_false]
 simp
def qd6 (f : Nat -> Bool) : Array Value := #[.bool (f 0), .bool (f 1), .bool (f 2), .bool (f 3), .bool (f 4), .bool (f 5), .bool (f 6), .bool (f 7), .bool (f 8), .bool (f 9), .bool (f 10), .bool (f 11)]
theorem qkW (f : Nat -> Bool) (p : Nat) (hp : p < 12) : (qd6 f)[p]? = some (.bool (f p)) := by
 match p, hp with
 | 0, _ | 1, _ | 2, _ | 3, _ | 4, _ | 5, _ | 6, _ | 7, _ | 8, _ | 9, _ | 10, _ | 11, _ => rfl
theorem qjJ (f : Nat -> Bool) (p : Nat) (hp : p < 12) : (qd6 f).setIfInBounds p (.bool true) = qd6 (fun q => if q = p then true else f q) := by
 match p, hp with
 | 0, _ | 1, _ | 2, _ | 3, _ | 4, _ | 5, _ | 6, _ | 7, _ | 8, _ | 9, _ | 10, _ | 11, _ => rfl
theorem Ok.seat {r : R} (h : Ok r) (k : Nat) (hk : k < 8) : qej r k := h.2.1 ⟨k, hk⟩ (qlB k hk)
theorem qgF {r : R} : Ok r ↔ (0 <= r.version /\ r.version <= 1073741824) /\ (∀ k, k < 8 -> qej r k) /\ ∀ j k, j < k -> k < 8 -> r.peer j = -1 \/ r.peer j ≠ r.peer k := by
 constructor
 · intro h
   refine ⟨h.1, h.seat, fun j k hjk hk => ?_⟩
   have h2 := h.2.2
   rw [qli] at h2
   rw [List.pairwise_iff_getElem] at h2
   have := h2 j k (by simp; omega) (by simp; omega) hjk
   have e : ∀ i (hi : i < 8), ([⟨0, by omega⟩, ⟨1, by omega⟩, ⟨2, by omega⟩, ⟨3, by omega⟩, ⟨4, by omega⟩, ⟨5, by omega⟩, ⟨6, by omega⟩, ⟨7, by omega⟩] : List Sl)[i] = ⟨i, hi⟩ := by
    intro i hi
    match i, hi with
    | 0, _ | 1, _ | 2, _ | 3, _ | 4, _ | 5, _ | 6, _ | 7, _ => rfl
   rw [e j (by omega), e k hk] at this
   exact this
 · rintro ⟨h1, h2, h3⟩
   refine ⟨h1, fun y _ => h2 y.1 y.2, ?_⟩
   rw [qli, List.pairwise_iff_getElem]
   intro i j hi hj hij
   have e : ∀ i (hi : i < 8), ([⟨0, by omega⟩, ⟨1, by omega⟩, ⟨2, by omega⟩, ⟨3, by omega⟩, ⟨4, by omega⟩, ⟨5, by omega⟩, ⟨6, by omega⟩, ⟨7, by omega⟩] : List Sl)[i] = ⟨i, hi⟩ := by
    intro i hi
    match i, hi with
    | 0, _ | 1, _ | 2, _ | 3, _ | 4, _ | 5, _ | 6, _ | 7, _ => rfl
   rw [e i (by simpa using hi), e j (by simpa using hj)]
   exact h3 i j hij (by simpa using hj)
theorem Ok.one {r : R} (h : Ok r) {j k : Nat} (hj : j < 8) (hk : k < 8) (he : r.peer j = r.peer k) (hn : r.peer j ≠ -1) : j = k := by
 have h3 := (qgF.1 h).2.2
 rcases Nat.lt_trichotomy j k with hl | hl | hl
 · rcases h3 j k hl hk with e | e
   · exact absurd e hn
   · exact absurd he e
 · exact hl
 · rcases h3 k j hl hj with e | e
   · exact absurd (he.trans e) hn
   · exact absurd he.symm e
def new : R := ⟨0, fun _ => -1, fun _ => 0⟩
def qeG (r : R) (p : Int) : List Sl -> Int
 | [] => -1
 | x :: l => if r.peer x.1 = p then x.1 else qeG r p l
def of (r : R) (p : Int) : Int := if Ok r /\ 0 <= p /\ p < 12 then qeG r p all8 else -1
theorem qgq {r : R} {p : Int} : ∀ {l : List Sl}, (∀ y ∈ l, r.peer y.1 ≠ p) -> qeG r p l = -1
 | [], _ => rfl
 | x :: l, h => by
  unfold qeG
  rw [if_neg (h x (by simp))]
  exact qgq fun y hy => h y (by simp [hy])
theorem qfw {r : R} {p : Int} {x : Sl} {m : List Sl} : ∀ {l : List Sl}, (∀ y ∈ l, r.peer y.1 ≠ p) -> r.peer x.1 = p -> qeG r p (l ++ x :: m) = x.1
 | [], _, hx => by show (if _ then _ else _) = _; rw [if_pos hx]
 | z :: l, h, hx => by
  show (if _ then _ else _) = _
  rw [if_neg (h z (by simp))]
  exact qfw (fun y hy => h y (by simp [hy])) hx
theorem qfx (r : R) (p : Int) : ∀ l : List Sl, (qeG r p l = -1 /\ ∀ y ∈ l, r.peer y.1 ≠ p) \/ ∃ y ∈ l, qeG r p l = (y.1 : Nat) /\ r.peer y.1 = p
 | [] => .inl ⟨rfl, by simp⟩
 | x :: l => by
  unfold qeG
  by_cases h : r.peer x.1 = p
  · rw [if_pos h]; exact .inr ⟨x, by simp, rfl, h⟩
  · rw [if_neg h]
    rcases qfx r p l with ⟨h1, h2⟩ | ⟨y, h1, h2, h3⟩
    · refine .inl ⟨h1, fun y hy => ?_⟩
      rcases List.mem_cons.1 hy with rfl | hy
      · exact h
      · exact h2 y hy
    · exact .inr ⟨y, by simp [h1], h2, h3⟩
theorem qlx {r : R} {p : Int} (hr : Ok r) (h0 : 0 <= p) (h1 : p < 12) : (of r p = -1 /\ ∀ k, k < 8 -> r.peer k ≠ p) \/ ∃ k : Nat, k < 8 /\ of r p = k /\ r.peer k = p := by
 unfold of
 rw [if_pos ⟨hr, h0, h1⟩]
 rcases qfx r p all8 with ⟨h, h'⟩ | ⟨y, _, h, h'⟩
 · exact .inl ⟨h, fun k hk => h' ⟨k, hk⟩ (qlB k hk)⟩
 · exact .inr ⟨y.1, y.2, h, h'⟩
def qpg (r : R) (st : Int × Int) (x : Sl) : Int × Int := if r.peer x.1 = -1 /\ r.gen x.1 < st.2 then (x.1, r.gen x.1) else st
def qqs (r : R) (l : List Sl) : Int × Int := l.foldl (qpg r) (-1, 60000)
def free (r : R) : Int := if Ok r then (qqs r all8).1 else -1
def qo1 (r : R) (m : Nat) (x : Sl) : Nat := if r.peer x.1 = -1 then m else m ||| 2 ^ x.1
def qqq (r : R) (l : List Sl) : Nat := l.foldl (qo1 r) 0
def mask (r : R) : Nat := if Ok r then qqq r all8 else 0
def qbD (r : R) (slot peer : Int) : Prop := (((Ok r /\ r.version < 1073741824) /\ 0 <= slot /\ slot < 8) /\ (0 <= peer /\ peer < 12) /\ of r peer = -1) /\ r.peer slot.toNat = -1 /\ r.gen slot.toNat ≠ 60000
def take (r : R) (k : Nat) (peer : Int) : R := ⟨r.version + 1, upd r.peer k peer, upd r.gen k (r.gen k + 1)⟩
def qbM (r : R) (slot : Int) : Prop := ((Ok r /\ r.version < 1073741824) /\ 0 <= slot /\ slot < 8) /\ r.peer slot.toNat ≠ -1
def give (r : R) (k : Nat) : R := ⟨r.version + 1, upd r.peer k (-1), r.gen⟩
instance (r : R) (s p : Int) : Decidable (qbD r s p) := by unfold qbD; infer_instance
instance (r : R) (s : Int) : Decidable (qbM r s) := by unfold qbM; infer_instance
end Ros
namespace Go.Proofs.YtbdlpbnfcnhajaaGreat
open Go.RowKit Go.Shelf
def Im.cells (g : Gm.G) (s : Value) (r : Ros.R) : Array Value := Gm.cells g s ++ Ros.cells r
theorem Im.qag (g : Gm.G) (s : Value) (r : Ros.R) : (Im.cells g s r).size = 76 := by unfold Im.cells; rw [Array.size_append, Gm.qag, Ros.qag]
theorem Im.qdb (g : Gm.G) (s : Value) (r : Ros.R) (i : Nat) (hi : i < 59) : (Im.cells g s r)[i]? = (Gm.cells g s)[i]? := by
 unfold Im.cells; rw [Array.getElem?_append_left (by rw [Gm.qag]; exact hi)]
theorem Im.qez (g : Gm.G) (s : Value) (r : Ros.R) (i : Nat) : (Im.cells g s r)[59 + i]? = (Ros.cells r)[i]? := by
 unfold Im.cells; rw [Array.getElem?_append_right (by rw [Gm.qag]; omega), Gm.qag]; congr 1; omega
theorem Im.qae (g : Gm.G) (s : Value) (r : Ros.R) (k j : Nat) (hk : k < 8) (hj : j < 7) : (Im.cells g s r)[2 + k * 7 + j]? = (g.ship k).cells[j]? :=
 (Im.qdb g s r _ (by omega)).trans (Gm.qae g s k j hk hj)
theorem Im.qaB (g : Gm.G) (s : Value) (r : Ros.R) (k : Nat) (hk : k < 8) : (Im.cells g s r)[60 + k * 2]? = some (.int .i64 (r.peer k)) := by
 rw [show 60 + k * 2 = 59 + (1 + k * 2) by omega, Im.qez]; exact Ros.qaB r k hk
theorem Im.qaV (g : Gm.G) (s : Value) (r : Ros.R) (k : Nat) (hk : k < 8) : (Im.cells g s r)[60 + k * 2 + 1]? = some (.int .i64 (r.gen k)) := by
 rw [show 60 + k * 2 + 1 = 59 + (1 + k * 2 + 1) by omega, Im.qez]; exact Ros.qaV r k hk
theorem Im.qg9 (g : Gm.G) (s s' : Value) (r : Ros.R) : (Im.cells g s r).setIfInBounds 58 s' = Im.cells g s' r := by
 unfold Im.cells Gm.cells Ros.cells
 simp only [List.append_toArray, List.setIfInBounds_toArray]
 congr 1
def Im.qbV (f : Nat -> Gm.Ship) : Nat -> List Int
 | 0 => []
 | k + 1 => Im.qbV f k ++ Im.ship (f k)
theorem Im.qoL (s : Gm.Ship) : (Im.ship s).length = if s.on = true then 22 else 1 := by
 unfold Im.ship
 split
 · rw [List.length_append, List.length_append, List.length_append, Im.qas, Im.qas, Im.qas, Im.qcH]
 · rfl
theorem Im.qpL (s : Gm.Ship) : (Im.ship s).length <= 22 := by rw [Im.qoL]; split <;> omega
theorem Im.qfX (f : Nat -> Gm.Ship) : ∀ k, (Im.qbV f k).length <= 22 * k
 | 0 => Nat.le_refl _
 | k + 1 => by
  show (Im.qbV f k ++ Im.ship (f k)).length <= _
  have := Im.qfX f k
  have := Im.qpL (f k)
  rw [List.length_append]; omega
def Im.seats (r : Ros.R) : Nat -> List Int
 | 0 => []
 | k + 1 => Im.seats r k ++ (Im.bytesOf 1 (r.peer k + 1) ++ Im.bytesOf 2 (r.gen k))
theorem Im.qgm (r : Ros.R) : ∀ k, (Im.seats r k).length = 3 * k
 | 0 => rfl
 | k + 1 => by
  show (Im.seats r k ++ _).length = _
  rw [List.length_append, List.length_append, Im.qgm r k, Im.qas, Im.qas]; omega
def Im.put (g : Gm.G) (r : Ros.R) : List Int :=
 Im.bytesOf 4 g.frame ++ (Im.bytesOf 8 g.dice ++ (Im.qbV g.ship 8 ++ ((Im.bytesOf 1 g.qaa.length ++ Im.qaa g.qaa) ++ (Im.bytesOf 4 r.version ++ Im.seats r 8))))
theorem qnW (s : Gm.Ship) (P o : Nat) (t : TypeId) (cs : Array Value) (bs : List Int) (b Bb Bp : Nat) (w : World) (ok : Gm.qaT s) (hbB : b <= Bb) (h : Wr b Bb Bp bs w) (hl : bs.length + 22 <= 65536) (hP : Box w P t cs) (hc : ∀ j, j < 7 -> cs[o + j]? = s.cells[j]?) (h1 : t ≠ 111) (h2 : t ≠ 5) (h3 : t ≠ 139) :
 Calls Tryz.prog 114 #[.func (.func 118) #[] #[.pointer (some ⟨Bp, 0, none⟩)], .pointer (some ⟨P, o, none⟩)] w fun e w' => e = .returned (.tuple #[]) /\ Wr b Bb Bp (bs ++ Im.ship s) w' /\ Wrote b Bb w w' := by
 obtain ⟨on, x, y, vx, vy, cool, score⟩ := s
 have s0 := hc 0 (by omega)
 have s1 := hc 1 (by omega)
 have s2 := hc 2 (by omega)
 have s3 := hc 3 (by omega)
 have s4 := hc 4 (by omega)
 have s5 := hc 5 (by omega)
 have s6 := hc 6 (by omega)
 simp only [Gm.Ship.cells, List.getElem?_cons_zero, List.getElem?_cons_succ, Nat.add_zero] at s0 s1 s2 s3 s4 s5 s6
 obtain ⟨w0, ⟨w2, w2'⟩, ⟨w3, w3'⟩, ⟨w4, w4'⟩, ⟨w5, w5'⟩, w6, w6', w7, w7'⟩ := ok
 dsimp only at w0 w2 w2' w3 w3' w4 w4' w5 w5' w6 w6' w7 w7'
 cases on
 · exact qkT P o t cs bs b Bb Bp w hbB h (by omega) hP s0 h1 h2 h3
 · exact qmG x y vx vy cool score P o t cs bs b Bb Bp w hbB h hl hP s0 s1 s2 s3 s4 s5 s6 (by omega) (by omega) (by omega) (by omega) ⟨w6, w6'⟩ ⟨w7, w7'⟩ h1 h2 h3
theorem qmE (g : Gm.G) (r : Ros.R) (n : Nat) (A : Option Addr) (c B : Nat) (bs : List Int) (b Bb Bp : Nat) (w : World) (hn : n = g.qaa.length) (hg : Gm.ok g) (hd : 0 <= g.dice /\ g.dice <= 18446744073709551615) (hr : Ros.Ok r) (hbB : b <= Bb) (hbP : b <= B) (hbw : b <= w.heap.size) (h : Wr b Bb Bp bs w) (hl : bs.length <= 64000) (hP : Box w B 40 (Im.cells g (.slice A n c) r))
 (hL : Lies w b 6 A n (Gm.qab g.qaa)) :
 Calls Tryz.prog 90 #[.func (.func 118) #[] #[.pointer (some ⟨Bp, 0, none⟩)], .pointer (some ⟨B, 0, none⟩)] w fun e w' => e = .returned (.tuple #[]) /\ Wr b Bb Bp (bs ++ Im.put g r) w' /\ Below b w w' /\ Kb B w w' := by
 have hw0 : IntKind.u64.wrap g.frame = g.frame := by rw [IntKind.wrap_u64]; have := hg.1; have := hg.2.1; omega
 have hw59 : IntKind.u64.wrap r.version = r.version := by rw [IntKind.wrap_u64]; have := hr.1; omega
 have e0 : (Im.cells g (.slice A n c) r)[0]? = some (.int .i64 g.frame) := (Im.qdb _ _ _ 0 (by omega)).trans (Gm.qaS _ _)
 have e1 : (Im.cells g (.slice A n c) r)[1]? = some (.int .u64 g.dice) := (Im.qdb _ _ _ 1 (by omega)).trans (Gm.qbC _ _)
 have c1 := qh (qb8 4 4 rfl g.frame B 0 40 _ bs b Bb Bp w (by decide) (by have := hg.1; have := hg.2.1; omega) hbB h (by omega) hP e0 (by decide) (by decide) (by decide))
 rw [hw0] at c1
 have c2 := fun X (hX : Wr b Bb Bp (bs ++ Im.bytesOf 4 g.frame) X) (hB : Box X B 40 (Im.cells g (.slice A n c) r)) => qh (qo4 8 8 rfl g.dice B 1 40 _ _ b Bb Bp X (by decide) hd hbB hX (by rw [List.length_append, Im.qas]; omega) hB e1 (by decide) (by decide) (by decide))
 have IV0 := qh h.qcx
 have P0 := qh hP
 have K0 := qh (Wrote.refl hbB w)
 have LL := qh hL
 have HG := qh hg
 have HR := qh hr
 have NL := qh hn
 have HV := qh hw59
 have ltP := hP.lt
 clear h hP hL hn hg hr hw0 hw59 e0 e1
 go_enter Tryz.func90, Tryz.ntmps90
 go_wp2_with (first | (go_at_call 112; ((with_reducible refine (c1.out).mono ?_); rintro e w1 ⟨rfl, hI, hK⟩; have P1 := qh (P0.out.qbx hK IV0.out (by decide) (by decide)); have IV1 := qh hI.qcx; have I1 := qh hI; have K1 := qh (K0.out.trans hK); clear hI hK)) | (go_at_call 113; ((with_reducible refine ((c2 _ I1.out P1.out).out).mono ?_); rintro e w2 ⟨rfl, hI, hK⟩; have P2 := qh (P1.out.qbx hK IV1.out (by decide) (by decide)); have IV2 := qh hI.qcx; have I2 := qh hI; have K2 := qh (K1.out.trans hK); clear hI hK)))
 go_loopw [18] (fun i wr => ∃ k : Nat, k <= 8 /\ i = .int .i64 k /\ Wr b Bb Bp (bs ++ Im.bytesOf 4 g.frame ++ Im.bytesOf 8 g.dice ++ Im.qbV g.ship k) wr /\ Wrote b Bb w wr) (fun i _ => 8 - (intOf i).toNat)
 case atStart => exact ⟨0, by omega, rfl, by simpa [Im.qbV] using I2.out, K2.out⟩
 case round =>
  obtain ⟨k, hk, rfl, hI, hK⟩ := hrel
  clear I1 P1 IV1 K1 I2 P2 IV2 K2 c1 c2
  by_cases hlt : k < 8
  · have hk8 : (k : Int) < 8 := by omega
    have P3 := P0.out.qbx hK IV0.out (by decide) (by decide)
    have hsl := Im.qfX g.ship k
    have c3 := qh (qnW (g.ship k) B (2 + k * 7) 40 _ _ b Bb Bp wr (HG.out.2.2.2.1 k hlt) hbB hI (by rw [List.length_append, List.length_append, List.length_append, Im.qas, Im.qas]; omega) P3 (fun j hj => Im.qae g _ r k j hlt hj) (by decide) (by decide) (by decide))
    have HSN := qh (show bs ++ Im.bytesOf 4 g.frame ++ Im.bytesOf 8 g.dice ++ Im.qbV g.ship k ++ Im.ship (g.ship k) = bs ++ Im.bytesOf 4 g.frame ++ Im.bytesOf 8 g.dice ++ Im.qbV g.ship (k + 1) by simp [Im.qbV])
    have HK := qh hK
    clear hI hK P3
    go_wp2_with (go_at_call 114; ((with_reducible refine (c3.out).mono ?_); rintro e w4 ⟨rfl, hI, hK⟩; have I4 := qh hI; have K4 := qh (HK.out.trans hK); clear hI hK))
    go_roundw
    case rel => exact ⟨k + 1, by omega, by go_num, by rw [<- HSN.out]; exact I4.out, K4.out⟩
    case measure => simp [intOf]; omega
  · have hk8 : ¬ (k : Int) < 8 := by omega
    obtain rfl : k = 8 := by omega
    have P3 := P0.out.qbx hK IV0.out (by decide) (by decide)
    have hsl := Im.qfX g.ship 8
    have hn32 : g.qaa.length <= 32 := HG.out.2.2.1
    have hshl := Im.qge g.qaa
    have c5 := qh (qmF g.qaa n A c B 40 (Im.cells g (.slice A n c) r) _ b Bb Bp wr NL.out (by have := NL.out; omega) HG.out.way.qaa hbB hbP (Nat.le_trans hbw hK.size) hI (by rw [List.length_append, List.length_append, List.length_append, Im.qas, Im.qas]; omega) P3 ((Im.qdb _ _ _ 58 (by omega)).trans (Gm.qaZ _ _)) (LL.out.below (hK.to hbw)) (by decide) (by decide) (by decide) (by decide))
    have lens : (bs ++ Im.bytesOf 4 g.frame ++ Im.bytesOf 8 g.dice ++ Im.qbV g.ship 8 ++ (Im.bytesOf 1 n ++ Im.qaa g.qaa)).length <= 65000 := by
     rw [List.length_append, List.length_append, List.length_append, List.length_append, List.length_append, Im.qas, Im.qas, Im.qas, hshl]; omega
    have HN := qh (show bs ++ Im.put g r = bs ++ Im.bytesOf 4 g.frame ++ Im.bytesOf 8 g.dice ++ Im.qbV g.ship 8 ++ (Im.bytesOf 1 n ++ Im.qaa g.qaa) ++ Im.bytesOf 4 r.version ++ Im.seats r 8 by rw [NL.out]; simp [Im.put])
    generalize hbk : bs ++ Im.bytesOf 4 g.frame ++ Im.bytesOf 8 g.dice ++ Im.qbV g.ship 8 ++ (Im.bytesOf 1 n ++ Im.qaa g.qaa) = bk at *
    have B3 := qh (hK.to hbw)
    have Q3 := qh ((Kb.refl (B := B) w).wrote hK IV0.out)
    clear hI hK P3 hbk hshl hsl hn32 P0 K0 LL
    go_upto_region 8 with (go_at_call 115; ((with_reducible refine (c5.out).mono ?_); rintro e w6 ⟨rfl, hI6, hB6, hK6, S, hP6⟩; rw [Im.qg9] at hP6; have I6 := qh hI6; have P6 := qh hP6; have B6 := qh (B3.out.trans hB6); have Q6 := qh (Q3.out.trans hK6); clear hI6 hB6 hK6 hP6))
    have e59 : (Im.cells g (.slice (some ⟨S, 0, none⟩) n n) r)[59]? = some (.int .i64 r.version) := (Im.qez _ _ _ 0).trans (Ros.qaS _)
    have c7 := qh (qb8 4 4 rfl r.version B 59 40 _ bk b Bb Bp w6 (by decide) (by have := HR.out.1; omega) hbB I6.out (by omega) P6.out e59 (by decide) (by decide) (by decide))
    rw [HV.out] at c7
    have IV6 := qh I6.out.qcx
    have K6 := qh (Wrote.refl hbB w6)
    clear e59 c5
    go_wp2_with (first | (go_at_call 112; ((with_reducible refine (c7.out).mono ?_); rintro e w7 ⟨rfl, hI, hK⟩; have P7 := qh (P6.out.qbx hK IV6.out (by decide) (by decide)); have IV7 := qh hI.qcx; have I7 := qh hI; have K7 := qh (K6.out.trans hK); clear hI hK)))
    go_loopw [42] (fun i wx => ∃ k : Nat, k <= 8 /\ i = .int .i64 k /\ Wr b Bb Bp (bk ++ Im.bytesOf 4 r.version ++ Im.seats r k) wx /\ Wrote b Bb w6 wx) (fun i _ => 8 - (intOf i).toNat)
    case atStart => exact ⟨0, by omega, rfl, by simpa [Im.seats] using I7.out, K7.out⟩
    case round =>
     obtain ⟨k, hk, rfl, hI, hK⟩ := hrel
     clear I7 P7 IV7 K7 c7
     by_cases hlt : k < 8
     · have hk8 : (k : Int) < 8 := by omega
       have P8 := P6.out.qbx hK IV6.out (by decide) (by decide)
       have hsl := Im.qgm r k
       have hs := HR.out.seat k hlt
       have c8 := qh (qnX (r.peer k) (r.gen k) B (60 + k * 2) 40 _ _ b Bb Bp wr ⟨by have := hs.2; omega, by have := hs.2; omega⟩ hs.1 hbB hI (by rw [List.length_append, List.length_append, Im.qas]; omega) P8 (Im.qaB g _ r k hlt) (Im.qaV g _ r k hlt) (by decide) (by decide) (by decide))
       have HSN := qh (show bk ++ Im.bytesOf 4 r.version ++ Im.seats r k ++ (Im.bytesOf 1 (r.peer k + 1) ++ Im.bytesOf 2 (r.gen k)) = bk ++ Im.bytesOf 4 r.version ++ Im.seats r (k + 1) by simp [Im.seats])
       have HK := qh hK
       clear hI hK P8 hs hsl
       go_wp2_with (go_at_call 117; ((with_reducible refine (c8.out).mono ?_); rintro e w9 ⟨rfl, hI, hK⟩; have I9 := qh hI; have K9 := qh (HK.out.trans hK); clear hI hK))
       go_roundw
       case rel => exact ⟨k + 1, by omega, by go_num, by rw [<- HSN.out]; exact I9.out, K9.out⟩
       case measure => simp [intOf]; omega
     · have hk8 : ¬ (k : Int) < 8 := by omega
       obtain rfl : k = 8 := by omega
       have HI := qh hI
       have HK := qh hK
       clear hI hK
       go_wp2
       go_end0
       exact ⟨rfl, by rw [HN.out]; exact HI.out, B6.out.trans (HK.out.to (Nat.le_trans hbw B6.out.size)), Q6.out.wrote HK.out IV6.out⟩
open Go.RowKit
structure Only (B : Nat) (w w' : World) : Prop where
 os : w'.os = w.os
 tape : w'.tape = w.tape
 output : w'.output = w.output
 size : w.heap.size <= w'.heap.size
 block : ∀ k, k < w.heap.size -> k ≠ B -> w'.heap[k]? = w.heap[k]?
section
variable {B : Nat} {w w' w'' : World}
theorem Only.refl (B : Nat) (w : World) : Only B w w := ⟨rfl, rfl, rfl, Nat.le_refl _, fun _ _ _ => rfl⟩
theorem Only.trans (h : Only B w w') (h' : Only B w' w'') : Only B w w'' :=
 ⟨h'.os.trans h.os, h'.tape.trans h.tape, h'.output.trans h.output, Nat.le_trans h.size h'.size, fun k hk hB => (h'.block k (Nat.lt_of_lt_of_le hk h.size) hB).trans (h.block k hk hB)⟩
theorem Only.of_below (h : Below w.heap.size w w') : Only B w w' := ⟨h.os, h.tape, h.output, h.size, fun k hk _ => h.block k hk⟩
theorem Only.set (w : World) (i : Nat) (u : Value) : Only B w (w.setCell ⟨B, i, none⟩ u) := by
 have h := (Below.refl B w).setCell (p := ⟨B, i, none⟩) (Nat.le_refl _) u
 exact ⟨h.os, h.tape, h.output, h.size, fun k hk hB => Below.heap_setCell w _ u k hB⟩
theorem Only.below {n : Nat} (h : Only B w w') (hn : n <= B) (hs : n <= w.heap.size) : Below n w w' := ⟨h.os, h.tape, h.output, h.size, fun k hk => h.block k (by omega) (by omega)⟩
theorem Only.box {g : Nat} {t : TypeId} {cs : Array Value} (h : Only B w w') (hb : Box w g t cs) (hg : g ≠ B) : Box w' g t cs := ⟨(h.block g hb.lt hg).trans hb.is⟩
end
structure Rg.St where
 g : Gm.G
 r : Ros.R
 A : Option Addr
 c : Nat
def Rg.St.arr (q : Rg.St) : Array Value := Im.cells q.g (.slice q.A q.g.qaa.length q.c) q.r
def Rg.St.cells (q : Rg.St) : List Value := q.arr.toList
theorem Rg.St.size (q : Rg.St) : q.arr.size = 76 := Im.qag _ _ _
theorem Rg.St.len (q : Rg.St) : q.cells.length = 76 := by unfold Rg.St.cells; rw [Array.length_toList]; exact q.size
theorem Rg.St.first (q : Rg.St) : q.arr[0]? = some (.int .i64 q.g.frame) := by
 unfold Rg.St.arr Im.cells
 rw [Array.getElem?_append_left (by rw [Gm.qag]; decide)]
 exact Gm.qaS _ _
def Rg.qa6 (L : List Rg.St) (f : Int) (v : Int) : Prop := (v = -1 /\ ∀ q ∈ L, q.g.frame ≠ f) \/ ∃ i q, v = ((i : Nat) : Int) /\ L[i]? = some q /\ q.g.frame = f /\ ∀ x ∈ L.take i, x.g.frame ≠ f
theorem Rg.qjq {L : List Rg.St} {f v : Int} {k : Nat} {q : Rg.St} (h : Rg.qa6 L f v) (hq : L[k]? = some q) (hf : q.g.frame = f) (hb : ∀ x ∈ L.take k, x.g.frame ≠ f) : v = k := by
 rcases h with ⟨_, h⟩ | ⟨i, y, rfl, hy, hpy, hby⟩
 · exact absurd hf (h q (List.mem_of_getElem? hq))
 · congr 1
   rcases Nat.lt_trichotomy i k with h | h | h
   · have h2 : (L.take k)[i]? = some y := by rw [List.getElem?_take, if_pos h]; exact hy
     exact absurd hpy (hb y (List.mem_of_getElem? h2))
   · exact h
   · have h2 : (L.take i)[k]? = some q := by rw [List.getElem?_take, if_pos h]; exact hq
     exact absurd hf (hby q (List.mem_of_getElem? h2))
theorem Rg.qhH {L : List Rg.St} {f v : Int} (h : Rg.qa6 L f v) (hb : ∀ x ∈ L, x.g.frame ≠ f) : v = -1 := by
 rcases h with ⟨h, _⟩ | ⟨i, y, rfl, hy, hpy, _⟩
 · exact h
 · exact absurd hpy (hb y (List.mem_of_getElem? hy))
theorem Rg.qhI {L : List Rg.St} {f : Int} {k : Nat} {q : Rg.St} (hq : L[k]? = some q) (hf : q.g.frame ≠ f) (hb : ∀ x ∈ L.take k, x.g.frame ≠ f) : ∀ x ∈ L.take (k + 1), x.g.frame ≠ f := fun y hy => by
 rw [List.take_add_one, hq] at hy
 rcases List.mem_append.1 hy with h | h
 · exact hb y h
 · obtain rfl := List.mem_singleton.1 h; exact hf
structure qdU (w : World) (A : Option Addr) (n : Nat) (L : List Rg.St) : Prop where
 len : n = L.length
 row : Lies w w.heap.size 76 A n (L.flatMap Rg.St.cells)
 qaa : ∀ q ∈ L, Lies w w.heap.size 6 q.A q.g.qaa.length (Gm.qab q.g.qaa)
theorem qdU.call {w w' : World} {A : Option Addr} {n : Nat} {L : List Rg.St} (h : qdU w A n L) (hb : Below w.heap.size w w') : qdU w' A n L :=
 ⟨h.len, (h.row.below hb).wider hb.size, fun q hq => ((h.qaa q hq).below hb).wider hb.size⟩
structure qa1 (B : Nat) (L : List Rg.St) (X : World) : Prop where
 box : ∃ A c, Box X B 57 #[.slice A L.length c] /\ qdU X A L.length L /\ L.length <= c /\ c <= maxLen
def qbW (Q : Nat -> Prop) (B : Nat) (X : World) : Prop := ∃ A n c, X.cell? ⟨B, 0, none⟩ = some (.slice A n c) /\ ∀ ad, A = some ad -> Q ad.block
theorem qeb {w : World} {B n : Nat} {ad : Addr} {l : List Rg.St} (h : Lies w B 76 (some ad) n (l.flatMap Rg.St.cells)) (hn : n = l.length) (f : Nat) (hf : f < l.length) (j : Nat) (hj : j < 76) : w.cell? ((ad.add (f * 76)).add j) = (l[f]).cells[j]? := by
 have h1 := qiH (cells := Rg.St.cells) (c := 76) Rg.St.len l f j hf (by omega)
 have h2 : (l[f]).cells[j]? = some ((l[f]).cells[j]'(by rw [Rg.St.len]; exact hj)) := List.getElem?_eq_getElem _
 rw [h2] at h1 ⊢
 have := h.cell ad rfl (by omega) (f * 76 + j) _ h1
 rw [show (ad.add (f * 76)).add j = ad.add (f * 76 + j) from by
  unfold Addr.add
  by_cases hj : j = 0
  · subst hj; simp
  · by_cases hx : f * 76 = 0
    · simp [hj, hx]
    · have : ¬ f * 76 + j = 0 := by omega
      simp [hj, hx, this, Nat.add_assoc]]
 exact this
theorem qbO (B : Nat) (L : List Rg.St) (f v : Int) (hv : Rg.qa6 L f v) (h9 : L.length <= 1000) (X : World) (h : qa1 B L X) :
 Calls Tryz.prog 43 #[.pointer (some ⟨B, 0, none⟩), .int .i64 f] X fun e X' => e = .returned (.int .i64 v) /\ X = X' := by
 obtain ⟨A, c, hB, hR, _, _⟩ := h.box
 have HV := qh hv
 have HR := qh hR
 have k0 : X.cell? ⟨B, 0, none⟩ = some (.slice A L.length c) := hB.cell 0
 clear hv h hB hR
 go_enter Tryz.func43, Tryz.ntmps43
 go_wp2_with fail
 go_loopw [5] (fun i wr => ∃ k : Nat, k <= L.length /\ i = .int .i64 k /\ X = wr /\ ∀ x ∈ L.take k, x.g.frame ≠ f) (fun i _ => L.length - (intOf i).toNat)
 case atStart => exact ⟨0, Nat.zero_le _, rfl, rfl, fun y hy => absurd hy List.not_mem_nil⟩
 case round =>
  obtain ⟨k, hk, rfl, rfl, hbf⟩ := hrel
  have HBF := qh hbf
  clear hbf
  by_cases hlt : k < L.length
  · have hlti : (k : Int) < L.length := by omega
    obtain ⟨ad, rfl, _⟩ := HR.out.row.start (by omega)
    have hq : L[k]? = some L[k] := List.getElem?_eq_getElem hlt
    have kx := qeb HR.out.row rfl k hlt 0 (by decide)
    rw [show (L[k]).cells[0]? = some (.int .i64 (L[k]).g.frame) from by unfold Rg.St.cells; rw [Array.getElem?_toList]; exact (L[k]).first] at kx
    have HQ := qh hq
    have kx0 : X.cell? (ad.add (k * 76)) = some (.int .i64 (L[k]).g.frame) := kx
    clear hq kx
    generalize L[k] = q at *
    by_cases hf : q.g.frame = f
    · have hfe : (q.g.frame == f) = true := by simpa using hf
      have HF := qh hf
      clear hf
      generalize q.g.frame = qf at hfe kx0
      go_wp2_with fail
      go_ret
      exact ⟨by rw [Rg.qjq HV.out HQ.out HF.out HBF.out]; rfl, rfl⟩
    · have hfe : (q.g.frame == f) = false := by simpa using hf
      have HF := qh hf
      clear hf
      generalize q.g.frame = qf at hfe kx0
      go_wp2_with fail
      go_roundw
      case rel => exact ⟨k + 1, by omega, by go_num, by first | rfl | trivial, Rg.qhI HQ.out HF.out HBF.out⟩
      case measure => simp [intOf]; omega
  · obtain rfl : k = L.length := by omega
    have hlti : ¬ (L.length : Int) < L.length := by omega
    go_wp2_with fail
    go_ret
    exact ⟨by rw [Rg.qhH HV.out (fun y hy => HBF.out y (by rw [List.take_length]; exact hy))]; rfl, by first | rfl | trivial⟩
theorem qoa (L : List Rg.St) (m j : Nat) (hm : m <= L.length) : (L.flatMap Rg.St.cells)[m * 76 + j]? = ((L.drop m).flatMap Rg.St.cells)[j]? := by
 have h : ((L.take m).flatMap Rg.St.cells).length = m * 76 := by
  have := qca (cells := Rg.St.cells) (c := 76) Rg.St.len (L.take m)
  rw [this, List.length_take]; congr 1; omega
 conv => lhs; rw [<- List.take_append_drop m L, List.flatMap_append]
 rw [List.getElem?_append_right (by omega), h]
 congr 1
 omega
theorem qdU.take {w : World} {A : Option Addr} {n : Nat} {L : List Rg.St} (h : qdU w A n L) (m : Nat) (hm : m <= n) : qdU w A m (L.take m) := by
 have hl := h.len
 refine ⟨by rw [List.length_take]; omega, ⟨?_, fun hn => h.row.start (by omega), fun ad e hn j u hj => h.row.cell ad e (by omega) j u ?_⟩, fun q hq => h.qaa q (List.mem_of_mem_take hq)⟩
 · rw [qca (cells := Rg.St.cells) (c := 76) Rg.St.len, List.length_take]; congr 1; omega
 · rw [<- List.take_append_drop m L, List.flatMap_append, List.getElem?_append_left (List.getElem?_eq_some_iff.1 hj).1]
   exact hj
theorem qdU.drop {w : World} {ad : Addr} {n : Nat} {L : List Rg.St} (h : qdU w (some ad) n L) (m : Nat) (hm : m < n) : qdU w (some (ad.add (m * 76))) (n - m) (L.drop m) := by
 have hl := h.len
 obtain ⟨ad', e, hb⟩ := h.row.start (by omega)
 injection e with e
 subst e
 refine ⟨by rw [List.length_drop]; omega, ⟨?_, fun hn => ⟨_, rfl, by show (ad.add (m * 76)).block < _; unfold Addr.add; split <;> exact hb⟩, fun ad2 e hn j u hj => ?_⟩, fun q hq => h.qaa q (List.mem_of_mem_drop hq)⟩
 · rw [qca (cells := Rg.St.cells) (c := 76) Rg.St.len, List.length_drop]; congr 1; omega
 · injection e with e
   subst e
   have := h.row.cell ad rfl (by omega) (m * 76 + j) u (by rw [qoa L m j (by omega)]; exact hj)
   rw [show (ad.add (m * 76)).add j = ad.add (m * 76 + j) from by
    unfold Addr.add
    by_cases hj : j = 0
    · subst hj; simp
    · by_cases hx : m * 76 = 0
      · simp [hj, hx]
      · have : ¬ m * 76 + j = 0 := by omega
        simp [hj, hx, this, Nat.add_assoc]]
   exact this
theorem qij {a b : Int} (h : a = b) : Ending.returned (.int .i32 a) = .returned (.int .i32 b) := by rw [h]
theorem qiS (w : World) (o1 o2 : Obj) : Below w.heap.size w ((w.alloc o1).alloc o2) := ((Below.refl _ _).alloc (Nat.le_refl _) _).alloc (by simp) _
theorem qmP (v : Int) (h : -9223372036854775808 <= v) (h' : v <= 9223372036854775807) (w : World) :
 Calls Tryz.prog 163 #[.int .i64 v] w fun e w' => e = .returned (.int .i32 (Fx.cut v)) /\ Below w.heap.size w w' := by
 have hmf : ∀ (fn : Fn) (first cap : Array Value) (w : World), (Instr.makeFunc fn first cap).run Tryz.prog w = .ok (.func fn first cap) w := fun _ _ _ _ => rfl
 go_enter Tryz.func163, Tryz.ntmps163
 go_wp2
 all_goals
  go_ret
  exact ⟨qij (by unfold Fx.cut; omega), qiS _ _ _⟩
theorem qmt (v : Int) (h : -9223372036854775808 <= v) (h' : v <= 9223372036854775807) (w : World) :
 Calls Tryz.prog 109 #[.int .i64 v] w fun e w' => e = .returned (.int .i32 (Fx.cut v)) /\ w = w' := by
 go_enter Tryz.func109, Tryz.ntmps109
 go_wp2
 all_goals
  go_ret
  exact ⟨qij (by unfold Fx.cut; omega), rfl⟩
theorem qdT (a lo hi : Int) (wa : -2147483648 <= a /\ a <= 2147483647) (wl : -2147483648 <= lo /\ lo <= 2147483647) (wh : -2147483648 <= hi /\ hi <= 2147483647) (w : World) :
 Calls Tryz.prog 150 #[.int .i32 a, .int .i32 lo, .int .i32 hi] w fun e w' => e = .returned (.int .i32 (Fx.qeW a lo hi)) /\ Below w.heap.size w w' := by
 have hmf : ∀ (fn : Fn) (first cap : Array Value) (w : World), (Instr.makeFunc fn first cap).run Tryz.prog w = .ok (.func fn first cap) w := fun _ _ _ _ => rfl
 go_enter Tryz.func150, Tryz.ntmps150
 go_wp2
 all_goals
  go_ret
  exact ⟨qij (by unfold Fx.qeW; omega), qiS _ _ _⟩
theorem qjn (a lo hi : Int) (wa : -2147483648 <= a /\ a <= 2147483647) (wl : -2147483648 <= lo /\ lo <= 2147483647) (wh : -2147483648 <= hi /\ hi <= 2147483647) (w : World) :
 Calls Tryz.prog 82 #[.int .i32 a, .int .i32 lo, .int .i32 hi] w fun e w' => e = .returned (.int .i32 (Fx.qeW a lo hi)) /\ w = w' := by
 go_enter Tryz.func82, Tryz.ntmps82
 go_wp2
 all_goals
  go_ret
  exact ⟨qij (by unfold Fx.qeW; omega), rfl⟩
theorem qmQ (a b : Int) (wa : -2147483648 <= a /\ a <= 2147483647) (wb : -2147483648 <= b /\ b <= 2147483647) (w : World) :
 Calls Tryz.prog 151 #[.int .i32 a, .int .i32 b] w fun e w' => e = .returned (.int .i32 (Fx.cut (a + b))) /\ Below w.heap.size w w' := by
 go_enter Tryz.func151, Tryz.ntmps151
 go_wp2_with fail
 refine (qmP _ (by omega) (by omega) _).mono ?_
 rintro e w1 ⟨rfl, hb⟩
 go_wp2_with fail
 go_ret
 exact ⟨rfl, by assumption⟩
theorem qmx (a b : Int) (wa : -2147483648 <= a /\ a <= 2147483647) (wb : -2147483648 <= b /\ b <= 2147483647) (w : World) :
 Calls Tryz.prog 83 #[.int .i32 a, .int .i32 b] w fun e w' => e = .returned (.int .i32 (Fx.cut (a + b))) /\ w = w' := by
 go_enter Tryz.func83, Tryz.ntmps83
 go_wp2_with fail
 refine (qmt _ (by omega) (by omega) _).mono ?_
 rintro e w1 ⟨rfl, rfl⟩
 go_wp2_with fail
 go_ret
 exact ⟨rfl, rfl⟩
theorem qdA (a : Int) (wa : -2147483648 <= a /\ a <= 2147483647) (w : World) :
 Calls Tryz.prog 160 #[.int .i32 a] w fun e w' => e = .returned (.int .i32 (Gf.wrap a)) /\ Below w.heap.size w w' := by
 have hmf : ∀ (fn : Fn) (first cap : Array Value) (w : World), (Instr.makeFunc fn first cap).run Tryz.prog w = .ok (.func fn first cap) w := fun _ _ _ _ => rfl
 have hb := Gf.qga a
 have he := qh (Gf.qhc a)
 go_enter Tryz.func160, Tryz.ntmps160
 go_wp2
 · go_ret
   have he := he.out
   rw [if_pos (by assumption)] at he
   exact ⟨qbB he, qac _ _⟩
 · go_ret
   have he := he.out
   rw [if_neg (by omega)] at he
   exact ⟨qbB he, qac _ _⟩
theorem qdB (a v : Int) (wa : -2147483648 <= a /\ a <= 2147483647) (wv : -2147483648 <= v /\ v <= 2147483647) (w : World) :
 Calls Tryz.prog 134 #[.int .i32 a, .int .i32 v] w fun e w' => e = .returned (.int .i32 (Gf.move a v)) /\ Below w.heap.size w w' := by
 have hmf : ∀ (fn : Fn) (first cap : Array Value) (w : World), (Instr.makeFunc fn first cap).run Tryz.prog w = .ok (.func fn first cap) w := fun _ _ _ _ => rfl
 have hb := Gf.qga (a + v)
 have he := qh (Gf.qhc (a + v))
 go_enter Tryz.func134, Tryz.ntmps134
 go_wp2
 · go_ret
   have he := he.out
   rw [if_pos (by assumption)] at he
   exact ⟨qbB he, qac _ _⟩
 · go_ret
   have he := he.out
   rw [if_neg (by omega)] at he
   exact ⟨qbB he, qac _ _⟩
theorem qcI (a b : Int) (wa : -2147483648 <= a /\ a <= 2147483647) (wb : -2147483648 <= b /\ b <= 2147483647) (w : World) :
 Calls Tryz.prog 155 #[.int .i32 a, .int .i32 b] w fun e w' => e = .returned (.int .i32 (Gf.gap a b)) /\ Below w.heap.size w w' := by
 have hmf : ∀ (fn : Fn) (first cap : Array Value) (w : World), (Instr.makeFunc fn first cap).run Tryz.prog w = .ok (.func fn first cap) w := fun _ _ _ _ => rfl
 have hb := Gf.qga (b - a + 8388608)
 have he := qh (Gf.qhc (b - a + 8388608))
 go_enter Tryz.func155, Tryz.ntmps155
 go_wp2
 · go_ret
   have he := he.out
   rw [if_pos (by assumption)] at he
   exact ⟨qbB (by unfold Gf.gap; omega), qac _ _⟩
 · go_ret
   have he := he.out
   rw [if_neg (by omega)] at he
   exact ⟨qbB (by unfold Gf.gap; omega), qac _ _⟩
theorem qcm (g : Int) (wg : -2147483648 <= g /\ g <= 2147483647) (w : World) :
 Calls Tryz.prog 154 #[.int .i32 g] w fun e w' => e = .returned (.bool (Gf.near g)) /\ w = w' := by
 go_enter Tryz.func154, Tryz.ntmps154
 go_wp2
 all_goals
  go_ret
  exact ⟨qao (by unfold Gf.near; first | (simp; omega) | simp | omega), rfl⟩
theorem qmM (ax ay bx by' : Int) (wax : -2147483648 <= ax /\ ax <= 2147483647) (way : -2147483648 <= ay /\ ay <= 2147483647) (wbx : -2147483648 <= bx /\ bx <= 2147483647) (wby' : -2147483648 <= by' /\ by' <= 2147483647) (h1 : Gf.near (Gf.gap ax bx) = true) (h2 : Gf.near (Gf.gap ay by') = true) (w : World) :
 Calls Tryz.prog 136 #[.int .i32 ax, .int .i32 ay, .int .i32 bx, .int .i32 by'] w fun e w' => e = .returned (.bool true) /\ Below w.heap.size w w' := by
 have c1 := fun X => qh (qcI ax bx wax wbx X)
 have c2 := fun X => qh (qcI ay by' way wby' X)
 have g1 := Gf.qfG ax bx
 have g2 := Gf.qfG ay by'
 have c3 := fun X => qh (qcm (Gf.gap ax bx) (by omega) X)
 have c4 := fun X => qh (qcm (Gf.gap ay by') (by omega) X)
 rw [h1] at c3
 rw [h2] at c4
 clear h1 h2
 go_enter Tryz.func136, Tryz.ntmps136
 go_wp2_with (first | (go_at_call 155; first | ((with_reducible refine ((c1 _).out).mono ?_); rintro e w1 ⟨rfl, hb1⟩) | ((with_reducible refine ((c2 _).out).mono ?_); rintro e w2 ⟨rfl, hb2⟩)) | (go_at_call 154; first | ((with_reducible refine ((c3 _).out).mono ?_); rintro e w' ⟨rfl, rfl⟩) | ((with_reducible refine ((c4 _).out).mono ?_); rintro e w' ⟨rfl, rfl⟩)))
 go_ret
 first | exact ⟨rfl, hb1⟩ | exact ⟨rfl, hb1.trans (hb2.mono hb1.size)⟩
theorem qmN (ax ay bx by' : Int) (wax : -2147483648 <= ax /\ ax <= 2147483647) (way : -2147483648 <= ay /\ ay <= 2147483647) (wbx : -2147483648 <= bx /\ bx <= 2147483647) (wby' : -2147483648 <= by' /\ by' <= 2147483647) (h1 : Gf.near (Gf.gap ax bx) = true) (h2 : Gf.near (Gf.gap ay by') = false) (w : World) :
 Calls Tryz.prog 136 #[.int .i32 ax, .int .i32 ay, .int .i32 bx, .int .i32 by'] w fun e w' => e = .returned (.bool false) /\ Below w.heap.size w w' := by
 have c1 := fun X => qh (qcI ax bx wax wbx X)
 have c2 := fun X => qh (qcI ay by' way wby' X)
 have g1 := Gf.qfG ax bx
 have g2 := Gf.qfG ay by'
 have c3 := fun X => qh (qcm (Gf.gap ax bx) (by omega) X)
 have c4 := fun X => qh (qcm (Gf.gap ay by') (by omega) X)
 rw [h1] at c3
 rw [h2] at c4
 clear h1 h2
 go_enter Tryz.func136, Tryz.ntmps136
 go_wp2_with (first | (go_at_call 155; first | ((with_reducible refine ((c1 _).out).mono ?_); rintro e w1 ⟨rfl, hb1⟩) | ((with_reducible refine ((c2 _).out).mono ?_); rintro e w2 ⟨rfl, hb2⟩)) | (go_at_call 154; first | ((with_reducible refine ((c3 _).out).mono ?_); rintro e w' ⟨rfl, rfl⟩) | ((with_reducible refine ((c4 _).out).mono ?_); rintro e w' ⟨rfl, rfl⟩)))
 go_ret
 first | exact ⟨rfl, hb1⟩ | exact ⟨rfl, hb1.trans (hb2.mono hb1.size)⟩
theorem qn9 (ax ay bx by' : Int) (wax : -2147483648 <= ax /\ ax <= 2147483647) (way : -2147483648 <= ay /\ ay <= 2147483647) (wbx : -2147483648 <= bx /\ bx <= 2147483647) (wby' : -2147483648 <= by' /\ by' <= 2147483647) (h1 : Gf.near (Gf.gap ax bx) = false) (w : World) :
 Calls Tryz.prog 136 #[.int .i32 ax, .int .i32 ay, .int .i32 bx, .int .i32 by'] w fun e w' => e = .returned (.bool false) /\ Below w.heap.size w w' := by
 have c1 := fun X => qh (qcI ax bx wax wbx X)
 have c2 := fun X => qh (qcI ay by' way wby' X)
 have g1 := Gf.qfG ax bx
 have g2 := Gf.qfG ay by'
 have c3 := fun X => qh (qcm (Gf.gap ax bx) (by omega) X)
 have c4 := fun X => qh (qcm (Gf.gap ay by') (by omega) X)
 rw [h1] at c3
 skip
 clear h1 
 go_enter Tryz.func136, Tryz.ntmps136
 go_wp2_with (first | (go_at_call 155; first | ((with_reducible refine ((c1 _).out).mono ?_); rintro e w1 ⟨rfl, hb1⟩) | ((with_reducible refine ((c2 _).out).mono ?_); rintro e w2 ⟨rfl, hb2⟩)) | (go_at_call 154; first | ((with_reducible refine ((c3 _).out).mono ?_); rintro e w' ⟨rfl, rfl⟩) | ((with_reducible refine ((c4 _).out).mono ?_); rintro e w' ⟨rfl, rfl⟩)))
 go_ret
 first | exact ⟨rfl, hb1⟩ | exact ⟨rfl, hb1.trans (hb2.mono hb1.size)⟩
theorem qkX (ax ay bx by' : Int) (wax : -2147483648 <= ax /\ ax <= 2147483647) (way : -2147483648 <= ay /\ ay <= 2147483647) (wbx : -2147483648 <= bx /\ bx <= 2147483647) (wby' : -2147483648 <= by' /\ by' <= 2147483647) (w : World) :
 Calls Tryz.prog 136 #[.int .i32 ax, .int .i32 ay, .int .i32 bx, .int .i32 by'] w fun e w' => e = .returned (.bool (Gf.hits ax ay bx by')) /\ Below w.heap.size w w' := by
 unfold Gf.hits
 cases h1 : Gf.near (Gf.gap ax bx)
 · exact qn9 ax ay bx by' wax way wbx wby' h1 w
 · cases h2 : Gf.near (Gf.gap ay by')
   · exact qmN ax ay bx by' wax way wbx wby' h1 h2 w
   · exact qmM ax ay bx by' wax way wbx wby' h1 h2 w
theorem qiG (a : Int) (wa : -128 <= a /\ a <= 127) (w : World) :
 Calls Tryz.prog 153 #[.int .i8 a] w fun e w' => e = .returned (.int .i32 (Gf.way a)) /\ w = w' := by
 go_enter Tryz.func153, Tryz.ntmps153
 go_wp2
 all_goals
  go_ret
  exact ⟨qbB (by unfold Gf.way; (repeat' split) <;> omega), rfl⟩
theorem qmO (x y b : Int) (wx : -128 <= x /\ x <= 127) (wy : -128 <= y /\ y <= 127) (wb : 0 <= b /\ b <= 255) (w : World) :
 Calls Tryz.prog 135 #[.agg #[.int .i8 x, .int .i8 y, .int .u8 b]] w fun e w' => e = .returned (.tuple #[.int .i32 (Gf.aimx x y), .int .i32 (Gf.aimy y)]) /\ Below w.heap.size w w' := by
 go_enter Tryz.func135, Tryz.ntmps135
 go_wp2_with fail
 · go_ret2
   have hy : y = 0 := eq_of_beq (by assumption)
   exact ⟨by simp [Gf.aimx, Gf.aimy, Gf.way, *], qac _ _⟩
 all_goals
  go_quiet ((go_at_call 153; with_reducible exact qb3 (qiG _ (by omega) _)))
  go_wp2
  go_ret2
  exact ⟨by simp_all [Gf.aimx, Gf.aimy, Gf.way], qaj (qac _ _) _⟩
theorem qgR (v s : Int) (wv : -2147483648 <= v /\ v <= 2147483647) (wss : -128 <= s /\ s <= 127) (w : World) :
 Calls Tryz.prog 133 #[.int .i32 v, .int .i8 s] w fun e w' => e = .returned (.int .i32 (Gf.push v s)) /\ Below w.heap.size w w' := by
 have hs := Gf.qno wv
 have c1 := fun X => qh (qmQ (v - v.tdiv 16) (256 * s) (by omega) (by omega) X)
 have hc := Fx.qpx (v - v.tdiv 16 + 256 * s)
 have c2 := fun X => qh (qdT (Fx.cut (v - v.tdiv 16 + 256 * s)) (-524288) 524288 hc (by omega) (by omega) X)
 go_enter Tryz.func133, Tryz.ntmps133
 go_wp2_with (first | (go_at_call 151; ((with_reducible refine ((c1 _).out).mono ?_); rintro e w1 ⟨rfl, hb1⟩)) | (go_at_call 150; ((with_reducible refine ((c2 _).out).mono ?_); rintro e w2 ⟨rfl, hb2⟩)))
 go_ret
 exact ⟨rfl, hb1.trans (hb2.mono hb1.size)⟩
theorem qfy (v : Int) (wv : -9223372036854775808 <= v /\ v <= 9223372036854775807) (w : World) :
 Calls Tryz.prog 84 #[.int .i64 v] w fun e w' => e = .returned (.int .i64 (v % 16777216)) /\ w = w' := by
 have hb := Gf.qga v
 have h2 := Gf.qga (v.tmod 16777216 + 16777216)
 have he' := qh (Gf.round_eq' v)
 go_enter Tryz.func84, Tryz.ntmps84
 go_wp2
 go_ret
 exact ⟨qbB he'.out, rfl⟩
theorem qgx (a v : Int) (wa : -2147483648 <= a /\ a <= 2147483647) (wv : -2147483648 <= v /\ v <= 2147483647) (w : World) :
 Calls Tryz.prog 63 #[.int .i32 a, .int .i32 v] w fun e w' => e = .returned (.int .i32 (Gf.move a v)) /\ w = w' := by
 have c1 := fun X => qh (qfy (a + v) (by omega) X)
 have hm := Gf.qbZ a v
 have hq : (a + v) % 16777216 = Gf.move a v := rfl
 rw [hq] at c1
 clear hq
 go_enter Tryz.func63, Tryz.ntmps63
 go_wp2_with (go_at_call 84; ((with_reducible refine ((c1 _).out).mono ?_); rintro e w' ⟨rfl, rfl⟩))
 go_ret
 exact ⟨rfl, rfl⟩
theorem qhF (a b : Int) (wa : -2147483648 <= a /\ a <= 2147483647) (wb : -2147483648 <= b /\ b <= 2147483647) (w : World) :
 Calls Tryz.prog 110 #[.int .i32 a, .int .i32 b] w fun e w' => e = .returned (.int .i32 (Gf.gap a b)) /\ w = w' := by
 obtain ⟨r, hr⟩ : ∃ r, r = (b - a) % 16777216 := ⟨_, rfl⟩
 have c1 := fun X => qh (qfy (b - a) (by omega) X)
 rw [<- hr] at c1
 have hb : 0 <= r /\ r < 16777216 := by omega
 have hg := qh (show Gf.gap a b = (if 8388608 <= r then r - 16777216 else r) by unfold Gf.gap; split <;> omega)
 clear hr
 go_enter Tryz.func110, Tryz.ntmps110
 go_wp2_with (go_at_call 84; ((with_reducible refine ((c1 _).out).mono ?_); rintro e w' ⟨rfl, rfl⟩))
 · go_ret
   exact ⟨qbB (by rw [hg.out, if_pos (by assumption)]), rfl⟩
 · go_ret
   exact ⟨qbB (by rw [hg.out, if_neg (by omega)]), rfl⟩
theorem qgy (ax ay bx by' : Int) (wax : -2147483648 <= ax /\ ax <= 2147483647) (way : -2147483648 <= ay /\ ay <= 2147483647) (wbx : -2147483648 <= bx /\ bx <= 2147483647) (wby' : -2147483648 <= by' /\ by' <= 2147483647) (w : World) :
 Calls Tryz.prog 86 #[.int .i32 ax, .int .i32 ay, .int .i32 bx, .int .i32 by'] w fun e w' => e = .returned (.bool (Gf.hits ax ay bx by')) /\ w = w' := by
 obtain ⟨g, hg⟩ : ∃ g, g = Gf.gap ax bx := ⟨_, rfl⟩
 obtain ⟨k, hk⟩ : ∃ k, k = Gf.gap ay by' := ⟨_, rfl⟩
 have c1 := fun X => qh (qhF ax bx wax wbx X)
 have c2 := fun X => qh (qhF ay by' way wby' X)
 rw [<- hg] at c1
 rw [<- hk] at c2
 have g1 : -8388608 <= g /\ g < 8388608 := hg ▸ Gf.qfG ax bx
 have g2 : -8388608 <= k /\ k < 8388608 := hk ▸ Gf.qfG ay by'
 have hh := qh (show Gf.hits ax ay bx by' = (Gf.near g && Gf.near k) by unfold Gf.hits; rw [hg, hk])
 clear hg hk
 go_enter Tryz.func86, Tryz.ntmps86
 go_wp2_with (go_at_call 110; first | ((with_reducible refine ((c1 _).out).mono ?_); rintro e w' ⟨rfl, rfl⟩) | ((with_reducible refine ((c2 _).out).mono ?_); rintro e w' ⟨rfl, rfl⟩))
 all_goals
  go_ret
  exact ⟨qao (by rw [hh.out, Bool.eq_iff_iff]; unfold Gf.near; simp; omega), rfl⟩
theorem qgw (a : Int) (wa : -128 <= a /\ a <= 127) (w : World) :
 Calls Tryz.prog 85 #[.int .i8 a] w fun e w' => e = .returned (.int .i32 (if 0 < a then 1 else if a < 0 then -1 else 0)) /\ w = w' := by
 go_enter Tryz.func85, Tryz.ntmps85
 go_wp2
 all_goals
  go_ret
  exact ⟨qbB (by (repeat' split) <;> omega), rfl⟩
theorem qmw (x y b : Int) (wx : -128 <= x /\ x <= 127) (wy : -128 <= y /\ y <= 127) (wb : 0 <= b /\ b <= 255) (w : World) :
 Calls Tryz.prog 64 #[.agg #[.int .i8 x, .int .i8 y, .int .u8 b]] w fun e w' => e = .returned (.tuple #[.int .i32 (Gf.aimx x y), .int .i32 (Gf.aimy y)]) /\ Below w.heap.size w w' := by
 obtain ⟨r, hr⟩ : ∃ r : Int, r = (if 0 < x then 1 else if x < 0 then -1 else 0) := ⟨_, rfl⟩
 obtain ⟨s, hs⟩ : ∃ s : Int, s = (if 0 < y then 1 else if y < 0 then -1 else 0) := ⟨_, rfl⟩
 have c1 := fun X => qh (qgw x wx X)
 have c2 := fun X => qh (qgw y wy X)
 rw [<- hr] at c1
 rw [<- hs] at c2
 have b1 : -1 <= r /\ r <= 1 := by rw [hr]; (repeat' split) <;> omega
 have b2 : -1 <= s /\ s <= 1 := by rw [hs]; (repeat' split) <;> omega
 have hrH := qh hr
 have hsH := qh hs
 clear hr hs
 go_enter Tryz.func64, Tryz.ntmps64
 go_wp2_with fail
 go_quiet ((first | (go_at_call 85; with_reducible exact qb3 (c1 _).out) | (go_at_call 85; with_reducible exact qb3 (c2 _).out)))
 go_wp2
 all_goals
  go_ret2
  have e1 := hrH.out
  have e2 := hsH.out
  refine ⟨?_, qaj (qac _ _) _⟩
  have ex : Gf.aimx x y = (if r = 0 /\ s = 0 then 1 else r) * 393216 := by
   unfold Gf.aimx Gf.way; rw [e1, e2]; (repeat' split) <;> omega
  have ey : Gf.aimy y = s * 393216 := by
   unfold Gf.aimy Gf.way; rw [e2]; (repeat' split) <;> omega
  rw [ex, ey]
  clear e1 e2 ex ey
  clear hrH hsH c1 c2
  refine qpQ ?_ (by omega)
  first
   | (have hr0 : ¬ r = 0 := by assumption
      rw [if_neg (fun h => hr0 h.1)]; omega)
   | (have hs1 : (s == 0) = false := by assumption
      have hs0 : s ≠ 0 := by simpa using hs1
      rw [if_neg (fun h => hs0 h.2)]; omega)
   | (have hs0 : s = 0 := eq_of_beq (by assumption)
      rw [if_pos ⟨by assumption, hs0⟩]; rfl)
theorem qkA (v s : Int) (wv : -2147483648 <= v /\ v <= 2147483647) (wss : -128 <= s /\ s <= 127) (w : World) :
 Calls Tryz.prog 62 #[.int .i32 v, .int .i8 s] w fun e w' => e = .returned (.int .i32 (Gf.push v s)) /\ w = w' := by
 have hs := Gf.qno wv
 have c1 := fun X => qh (qmx (v - v.tdiv 16) (256 * s) (by omega) (by omega) X)
 have hc := Fx.qpx (v - v.tdiv 16 + 256 * s)
 have c2 := fun X => qh (qjn (Fx.cut (v - v.tdiv 16 + 256 * s)) (-524288) 524288 hc (by omega) (by omega) X)
 go_enter Tryz.func62, Tryz.ntmps62
 go_wp2_with (first | (go_at_call 83; ((with_reducible refine ((c1 _).out).mono ?_); rintro e w' ⟨rfl, rfl⟩)) | (go_at_call 82; ((with_reducible refine ((c2 _).out).mono ?_); rintro e w' ⟨rfl, rfl⟩)))
 go_ret
 exact ⟨rfl, rfl⟩
theorem qdm (i : Int) (wi : -9223372036854775808 <= i /\ i <= 9223372036854775807) (w : World) :
 Calls Tryz.prog 125 #[.int .i64 i] w fun e w' => e = .returned (.bool (decide (0 <= i) && decide (i < 8))) /\ w = w' := by
 go_enter Tryz.func125, Tryz.ntmps125
 go_wp2
 all_goals
  go_ret
  exact ⟨qao (by rw [Bool.eq_iff_iff]; simp; omega), rfl⟩
theorem qm6 {x : Int} (h : Gm.inF x) : Gf.wrap x = x := by unfold Gm.inF at h; unfold Gf.wrap; omega
theorem qiT (x y : Int) (hx : Gm.inF x) (hy : Gm.inF y) (w : World) :
 Calls Tryz.prog 146 #[.int .i32 x, .int .i32 y] w fun e w' => e = .returned (.bool true) /\ Below w.heap.size w w' := by
 have c1 := fun X => qh (qdA x (by unfold Gm.inF at hx; omega) X)
 have c2 := fun X => qh (qdA y (by unfold Gm.inF at hy; omega) X)
 rw [qm6 hx] at c1
 rw [qm6 hy] at c2
 go_enter Tryz.func146, Tryz.ntmps146
 go_wp2_with (go_at_call 160; first | ((with_reducible refine ((c1 _).out).mono ?_); rintro e w1 ⟨rfl, hb1⟩; clear c1) | ((with_reducible refine ((c2 _).out).mono ?_); rintro e w2 ⟨rfl, hb2⟩))
 go_ret
 exact ⟨rfl, hb1.trans (hb2.mono hb1.size)⟩
theorem qlL {a m : Int} (h : Gm.slow a m) : Fx.qeW a (-m) m = a := by unfold Gm.slow at h; unfold Fx.qeW; omega
theorem qhw (x y m : Int) (hm : 0 <= m /\ m <= 1000000) (hx : Gm.slow x m) (hy : Gm.slow y m) (w : World) :
 Calls Tryz.prog 147 #[.int .i32 x, .int .i32 y, .int .i32 m] w fun e w' => e = .returned (.bool true) /\ Below w.heap.size w w' := by
 have c1 := fun X => qh (qdT x (-m) m (by unfold Gm.slow at hx; omega) (by omega) (by omega) X)
 have c2 := fun X => qh (qdT y (-m) m (by unfold Gm.slow at hy; omega) (by omega) (by omega) X)
 rw [qlL hx] at c1
 rw [qlL hy] at c2
 go_enter Tryz.func147, Tryz.ntmps147
 go_wp2_with (go_at_call 150; first | ((with_reducible refine ((c1 _).out).mono ?_); rintro e w1 ⟨rfl, hb1⟩; clear c1) | ((with_reducible refine ((c2 _).out).mono ?_); rintro e w2 ⟨rfl, hb2⟩))
 go_ret
 exact ⟨rfl, hb1.trans (hb2.mono hb1.size)⟩
theorem qkO (s : Gm.Ship) (h : Gm.qaT s) (w : World) :
 Calls Tryz.prog 129 #[.agg s.cells.toArray] w fun e w' => e = .returned (.bool true) /\ Below w.heap.size w w' := by
 obtain ⟨on, x, y, vx, vy, cool, score⟩ := s
 obtain ⟨o1, o2, o3, o4, o5, o6, o7, o8, o9⟩ := h
 dsimp only at o1 o2 o3 o4 o5 o6 o7 o8 o9
 simp only [Gm.Ship.cells]
 rcases o1 with rfl | o1
 · have c1 := fun X => qh (qiT x y o2 o3 X)
   have c2 := fun X => qh (qhw vx vy 524288 (by omega) o4 o5 X)
   clear o2 o3 o4 o5
   go_enter Tryz.func129, Tryz.ntmps129
   go_wp2_with (first | (go_at_call 146; ((with_reducible refine ((c1 _).out).mono ?_); rintro e w1 ⟨rfl, hb1⟩; have B1 := (Box.made w 29 #[.bool true, .int .i32 x, .int .i32 y, .int .i32 vx, .int .i32 vy, .int .i64 cool, .int .i64 score]).below hb1 (by simp); have K1 := B1.cell)) | (go_at_call 147; ((with_reducible refine ((c2 _).out).mono ?_); rintro e w2 ⟨rfl, hb2⟩; have B2 := B1.below hb2 B1.lt; have K2 := B2.cell; clear K1)))
   go_ret
   exact ⟨rfl, ((qac w _).trans (hb1.mono (by simp))).trans (hb2.mono (by have := hb1.size; simp at this; omega))⟩
 · injection o1 with z1 z2 z3 z4 z5 z6 z7
   subst z1 z2 z3 z4 z5 z6 z7
   clear o2 o3 o4 o5
   go_enter Tryz.func129, Tryz.ntmps129
   go_wp2
   go_ret
   exact ⟨rfl, qac _ _⟩
theorem qkM (s : Gm.Shot) (h : Gm.qa5 s) (w : World) :
 Calls Tryz.prog 131 #[.agg s.cells.toArray] w fun e w' => e = .returned (.bool true) /\ Below w.heap.size w w' := by
 obtain ⟨owner, x, y, vx, vy, left⟩ := s
 obtain ⟨o1, o2, o3, o4, o5, o6, o7, o8⟩ := h
 dsimp only at o1 o2 o3 o4 o5 o6 o7 o8
 simp only [Gm.Shot.cells]
 have c0 := fun X => qh (qdm owner (by omega) X)
 rw [decide_eq_true o1, decide_eq_true o2, Bool.and_self] at c0
 have c1 := fun X => qh (qiT x y o3 o4 X)
 have c2 := fun X => qh (qhw vx vy 393216 (by omega) o5 o6 X)
 clear o3 o4 o5 o6
 go_enter Tryz.func131, Tryz.ntmps131
 go_wp2_with (first | (go_at_call 125; ((with_reducible refine ((c0 _).out).mono ?_); rintro e w0 ⟨rfl, rfl⟩)) | (go_at_call 146; ((with_reducible refine ((c1 _).out).mono ?_); rintro e w1 ⟨rfl, hb1⟩; have B1 := (Box.made w 72 #[.int .i64 owner, .int .i32 x, .int .i32 y, .int .i32 vx, .int .i32 vy, .int .i64 left]).below hb1 (by simp); have K1 := B1.cell)) | (go_at_call 147; ((with_reducible refine ((c2 _).out).mono ?_); rintro e w2 ⟨rfl, hb2⟩; have B2 := B1.below hb2 B1.lt; have K2 := B2.cell; clear K1)))
 go_ret
 exact ⟨rfl, ((qac w _).trans (hb1.mono (by simp))).trans (hb2.mono (by have := hb1.size; simp at this; omega))⟩
theorem qi3 (f : Nat -> Gm.Ship) (k j : Nat) (hk : k < 8) (hj : j < 7) : (Gm.qax f)[k * 7 + j]? = (f k).cells[j]? := by
 match k, hk with
 | 0, _ => match j, hj with | 0, _ | 1, _ | 2, _ | 3, _ | 4, _ | 5, _ | 6, _ => rfl
 | 1, _ => match j, hj with | 0, _ | 1, _ | 2, _ | 3, _ | 4, _ | 5, _ | 6, _ => rfl
 | 2, _ => match j, hj with | 0, _ | 1, _ | 2, _ | 3, _ | 4, _ | 5, _ | 6, _ => rfl
 | 3, _ => match j, hj with | 0, _ | 1, _ | 2, _ | 3, _ | 4, _ | 5, _ | 6, _ => rfl
 | 4, _ => match j, hj with | 0, _ | 1, _ | 2, _ | 3, _ | 4, _ | 5, _ | 6, _ => rfl
 | 5, _ => match j, hj with | 0, _ | 1, _ | 2, _ | 3, _ | 4, _ | 5, _ | 6, _ => rfl
 | 6, _ => match j, hj with | 0, _ | 1, _ | 2, _ | 3, _ | 4, _ | 5, _ | 6, _ => rfl
 | 7, _ => match j, hj with | 0, _ | 1, _ | 2, _ | 3, _ | 4, _ | 5, _ | 6, _ => rfl
theorem qln {w : World} {B : Nat} {A : Option Addr} {f : Nat -> Gm.Ship} (h : Lies w B 7 A 8 (Gm.qax f)) (k : Nat) (hk : k < 8) :
 ∃ ad, A = some ad /\ ad.block < B /\ w.cell? (ad.add (k * 7)) = some (.bool (f k).on) /\ w.cell? ⟨(ad.add (k * 7)).block, (ad.add (k * 7)).off + 1, none⟩ = some (.int .i32 (f k).x) /\
  w.cell? ⟨(ad.add (k * 7)).block, (ad.add (k * 7)).off + 2, none⟩ = some (.int .i32 (f k).y) /\ w.cell? ⟨(ad.add (k * 7)).block, (ad.add (k * 7)).off + 3, none⟩ = some (.int .i32 (f k).vx) /\
  w.cell? ⟨(ad.add (k * 7)).block, (ad.add (k * 7)).off + 4, none⟩ = some (.int .i32 (f k).vy) /\ w.cell? ⟨(ad.add (k * 7)).block, (ad.add (k * 7)).off + 5, none⟩ = some (.int .i64 (f k).cool) /\
  w.cell? ⟨(ad.add (k * 7)).block, (ad.add (k * 7)).off + 6, none⟩ = some (.int .i64 (f k).score) := by
 obtain ⟨ad, e, hb⟩ := h.start (by omega)
 have hc := h.cell ad e (by omega)
 have hj : ∀ j v, j < 7 -> (f k).cells[j]? = some v -> w.cell? ((ad.add (k * 7)).add j) = some v := fun j v hj hv => by
  rw [qct]
  exact hc _ _ ((qi3 f k j hk hj).trans hv)
 refine ⟨ad, e, hb, ?_, ?_, ?_, ?_, ?_, ?_, ?_⟩
 · have := hj 0 _ (by omega) rfl; rwa [show (ad.add (k * 7)).add 0 = ad.add (k * 7) from by unfold Addr.add; rfl] at this
 · have := hj 1 _ (by omega) rfl; rwa [qce _ 1 (by omega)] at this
 · have := hj 2 _ (by omega) rfl; rwa [qce _ 2 (by omega)] at this
 · have := hj 3 _ (by omega) rfl; rwa [qce _ 3 (by omega)] at this
 · have := hj 4 _ (by omega) rfl; rwa [qce _ 4 (by omega)] at this
 · have := hj 5 _ (by omega) rfl; rwa [qce _ 5 (by omega)] at this
 · have := hj 6 _ (by omega) rfl; rwa [qce _ 6 (by omega)] at this
theorem qgi {w : World} {B : Nat} {g : Gm.G} {s : Value} (h : Box w B 33 (Gm.cells g s)) : Lies w w.heap.size 7 (some ⟨B, 2, none⟩) 8 (Gm.qax g.ship) := by
 refine ⟨rfl, fun _ => ⟨_, rfl, h.lt⟩, fun ad e _ j u hu => ?_⟩
 injection e with e
 subst e
 have hj : j < 56 := by have := (List.getElem?_eq_some_iff.1 hu).1; rwa [Gm.qcA] at this
 have hadd : (⟨B, 2, none⟩ : Addr).add j = ⟨B, 2 + j, none⟩ := by unfold Addr.add; split <;> simp_all
 rw [hadd, h.cell, Gm.qey _ _ _ hj, hu]
theorem qfN (s : Gm.Ship) (h : Gm.qaT s) (Bf : Nat) (w : World) (hf : Box w Bf 173 #[.func (.func 129) #[] #[]]) :
 Calls Tryz.prog 145 #[.agg s.cells.toArray, .pointer (some ⟨Bf, 0, none⟩)] w fun e w' => e = .returned (.bool false) /\ Below w.heap.size w w' := by
 have c1 := fun X => qh (qkO s h X)
 have hK : ∀ o, (w.alloc o).cell? ⟨Bf, 0, none⟩ = some (.func (.func 129) #[] #[]) := fun o => (hf.alloc o).cell 0
 obtain ⟨on, x, y, vx, vy, cool, score⟩ := s
 simp only [Gm.Ship.cells] at c1 ⊢
 clear h hf
 go_enter Tryz.func145, Tryz.ntmps145
 go_wp2_with (go_at_call 129; ((with_reducible refine ((c1 _).out).mono ?_); rintro e w1 ⟨rfl, hb1⟩))
 go_ret
 exact ⟨rfl, (qac w _).trans (hb1.mono (by simp))⟩
theorem qiw (f : Nat -> Gm.Ship) (A : Option Addr) (c : Nat) (Bf : Nat) (w : World) (hok : ∀ i, i < 8 -> Gm.qaT (f i)) (hr : Lies w w.heap.size 7 A 8 (Gm.qax f)) (hf : Box w Bf 173 #[.func (.func 129) #[] #[]]) :
 Calls Tryz.prog 159 #[.slice A 8 c, .func (.func 145) #[] #[.pointer (some ⟨Bf, 0, none⟩)]] w fun e w' => e = .returned (.int .i64 (-1)) /\ Below w.heap.size w w' := by
 go_enter Tryz.func159, Tryz.ntmps159
 go_wp2
 go_loopw [8] (fun i wr => ∃ k : Nat, k <= 8 /\ i = .int .i64 k /\ Below w.heap.size w wr) (fun i _ => 8 - (intOf i).toNat)
 case atStart => exact ⟨0, by omega, rfl, Below.refl _ _⟩
 case round =>
  obtain ⟨k, hk, rfl, hb⟩ := hrel
  by_cases hlt : k < 8
  · have hbs := hb.size
    obtain ⟨ad, rfl, hbl, e0, e1, e2, e3, e4, e5, e6⟩ := qln (hr.below hb) k hlt
    have ho := hok k hlt
    have cc := fun X hX => qh (qfN (f k) ho Bf X hX)
    have hfb := hf.below hb hf.lt
    generalize f k = s at e0 e1 e2 e3 e4 e5 e6 ho cc
    obtain ⟨on, x, y, vx, vy, cool, score⟩ := s
    dsimp only at e0 e1 e2 e3 e4 e5 e6
    simp only [Gm.Ship.cells] at cc
    have hkn : (k : Int) < 8 := by omega
    have HB := qh hb
    have HF := qh hfb
    clear hr hok ho hb hf hfb
    go_wp2_with (go_at_call 145; ((with_reducible refine ((cc _ (by first | exact HF.out)).out).mono ?_); rintro e w1 ⟨rfl, hb1⟩))
    go_roundw
    case rel => exact ⟨k + 1, by omega, by go_num, HB.out.trans (hb1.mono HB.out.size)⟩
    case measure => simp [intOf]; omega
  · have hkn : ¬ (k : Int) < 8 := by omega
    clear hr
    go_wp2
    go_ret
    exact ⟨rfl, hb⟩
theorem qg8 (f : Nat -> Gm.Ship) (A : Option Addr) (c : Nat) (Bf : Nat) (w : World) (hok : ∀ i, i < 8 -> Gm.qaT (f i)) (hr : Lies w w.heap.size 7 A 8 (Gm.qax f)) (hf : Box w Bf 173 #[.func (.func 129) #[] #[]]) :
 Calls Tryz.prog 144 #[.slice A 8 c, .func (.func 145) #[] #[.pointer (some ⟨Bf, 0, none⟩)]] w fun e w' => e = .returned (.bool false) /\ Below w.heap.size w w' := by
 have c1 := qh (qiw f A c Bf w hok hr hf)
 clear hr hok hf
 go_enter Tryz.func144, Tryz.ntmps144
 go_wp2_with (go_at_call 159; ((with_reducible refine ((c1).out).mono ?_); rintro e w1 ⟨rfl, hb1⟩))
 go_ret
 exact ⟨rfl, hb1⟩
theorem qhd (f : Nat -> Gm.Ship) (A : Option Addr) (c : Nat) (w : World) (hok : ∀ i, i < 8 -> Gm.qaT (f i)) (hr : Lies w w.heap.size 7 A 8 (Gm.qax f)) :
 Calls Tryz.prog 128 #[.slice A 8 c, .func (.func 129) #[] #[]] w fun e w' => e = .returned (.bool true) /\ Below w.heap.size w w' := by
 have hmf : ∀ (fn : Fn) (first cap : Array Value) (w : World), (Instr.makeFunc fn first cap).run Tryz.prog w = .ok (.func fn first cap) w := fun _ _ _ _ => rfl
 have hb0 := qac w (.cells #[.func (.func 129) #[] #[]] 173)
 have c1 := qh (qg8 f A c w.heap.size _ hok ((hr.below hb0).wider hb0.size) (Box.made w _ _))
 have hbz := qh hb0
 clear hr hok hb0
 go_enter Tryz.func128, Tryz.ntmps128
 go_wp2_with (go_at_call 144; ((with_reducible refine ((c1).out).mono ?_); rintro e w1 ⟨rfl, hb1⟩))
 go_ret
 exact ⟨rfl, hbz.out.trans (hb1.mono hbz.out.size)⟩
theorem qfM (s : Gm.Shot) (h : Gm.qa5 s) (Bf : Nat) (w : World) (hf : Box w Bf 175 #[.func (.func 131) #[] #[]]) :
 Calls Tryz.prog 149 #[.agg s.cells.toArray, .pointer (some ⟨Bf, 0, none⟩)] w fun e w' => e = .returned (.bool false) /\ Below w.heap.size w w' := by
 have c1 := fun X => qh (qkM s h X)
 have hK : ∀ o, (w.alloc o).cell? ⟨Bf, 0, none⟩ = some (.func (.func 131) #[] #[]) := fun o => (hf.alloc o).cell 0
 obtain ⟨owner, x, y, vx, vy, left⟩ := s
 simp only [Gm.Shot.cells] at c1 ⊢
 clear h hf
 go_enter Tryz.func149, Tryz.ntmps149
 go_wp2_with (go_at_call 131; ((with_reducible refine ((c1 _).out).mono ?_); rintro e w1 ⟨rfl, hb1⟩))
 go_ret
 exact ⟨rfl, (qac w _).trans (hb1.mono (by simp))⟩
theorem qiu (l : List Gm.Shot) (A : Option Addr) (n c : Nat) (Bf : Nat) (w : World) (hok : ∀ i (h : i < l.length), Gm.qa5 l[i]) (hn : n = l.length) (hn32 : n <= 32) (hr : Lies w w.heap.size 6 A n (Gm.qab l)) (hf : Box w Bf 175 #[.func (.func 131) #[] #[]]) :
 Calls Tryz.prog 161 #[.slice A n c, .func (.func 149) #[] #[.pointer (some ⟨Bf, 0, none⟩)]] w fun e w' => e = .returned (.int .i64 (-1)) /\ Below w.heap.size w w' := by
 have hN := qh hn
 clear hn
 go_enter Tryz.func161, Tryz.ntmps161
 go_wp2
 go_loopw [8] (fun i wr => ∃ k : Nat, k <= n /\ i = .int .i64 k /\ Below w.heap.size w wr) (fun i _ => n - (intOf i).toNat)
 case atStart => exact ⟨0, by omega, rfl, Below.refl _ _⟩
 case round =>
  obtain ⟨k, hk, rfl, hb⟩ := hrel
  by_cases hlt : k < n
  · have hbs := hb.size
    obtain ⟨ad, rfl, hbl, e0, e1, e2, e3, e4, e5⟩ := qco (hr.below hb) hN.out k (by have := hN.out; omega)
    have ho := hok k (by have := hN.out; omega)
    have cc := fun X hX => qh (qfM (l[k]'(by have := hN.out; omega)) ho Bf X hX)
    have hfb := hf.below hb hf.lt
    generalize l[k]'(by have := hN.out; omega) = s at e0 e1 e2 e3 e4 e5 ho cc
    obtain ⟨owner, x, y, vx, vy, left⟩ := s
    dsimp only at e0 e1 e2 e3 e4 e5
    simp only [Gm.Shot.cells] at cc
    have hkn : (k : Int) < n := by omega
    have HB := qh hb
    have HF := qh hfb
    clear hr hok ho hb hf hfb
    go_wp2_with (go_at_call 149; ((with_reducible refine ((cc _ (by first | exact HF.out)).out).mono ?_); rintro e w1 ⟨rfl, hb1⟩))
    go_roundw
    case rel => exact ⟨k + 1, by omega, by go_num, HB.out.trans (hb1.mono HB.out.size)⟩
    case measure => simp [intOf]; omega
  · have hkn : ¬ (k : Int) < n := by omega
    clear hr
    go_wp2
    go_ret
    exact ⟨rfl, hb⟩
theorem qgZ (l : List Gm.Shot) (A : Option Addr) (n c : Nat) (Bf : Nat) (w : World) (hok : ∀ i (h : i < l.length), Gm.qa5 l[i]) (hn : n = l.length) (hn32 : n <= 32) (hr : Lies w w.heap.size 6 A n (Gm.qab l)) (hf : Box w Bf 175 #[.func (.func 131) #[] #[]]) :
 Calls Tryz.prog 148 #[.slice A n c, .func (.func 149) #[] #[.pointer (some ⟨Bf, 0, none⟩)]] w fun e w' => e = .returned (.bool false) /\ Below w.heap.size w w' := by
 have c1 := qh (qiu l A n c Bf w hok hn hn32 hr hf)
 clear hr hok hf hn
 go_enter Tryz.func148, Tryz.ntmps148
 go_wp2_with (go_at_call 161; ((with_reducible refine ((c1).out).mono ?_); rintro e w1 ⟨rfl, hb1⟩))
 go_ret
 exact ⟨rfl, hb1⟩
theorem qlf (l : List Gm.Shot) (A : Option Addr) (n c : Nat) (w : World) (hok : ∀ i (h : i < l.length), Gm.qa5 l[i]) (hn : n = l.length) (hn32 : n <= 32) (hr : Lies w w.heap.size 6 A n (Gm.qab l)) :
 Calls Tryz.prog 130 #[.slice A n c, .func (.func 131) #[] #[]] w fun e w' => e = .returned (.bool true) /\ Below w.heap.size w w' := by
 have hmf : ∀ (fn : Fn) (first cap : Array Value) (w : World), (Instr.makeFunc fn first cap).run Tryz.prog w = .ok (.func fn first cap) w := fun _ _ _ _ => rfl
 have hb0 := qac w (.cells #[.func (.func 131) #[] #[]] 175)
 have c1 := qh (qgZ l A n c w.heap.size _ hok hn hn32 ((hr.below hb0).wider hb0.size) (Box.made w _ _))
 have hbz := qh hb0
 clear hr hok hb0 hn
 go_enter Tryz.func130, Tryz.ntmps130
 go_wp2_with (go_at_call 148; ((with_reducible refine ((c1).out).mono ?_); rintro e w1 ⟨rfl, hb1⟩))
 go_ret
 exact ⟨rfl, hbz.out.trans (hb1.mono hbz.out.size)⟩
theorem qgJ (g : Gm.G) (A : Option Addr) (n c : Nat) (w : World) (hg : Gm.ok g) (hn : n = g.qaa.length) (hr : Lies w w.heap.size 6 A n (Gm.qab g.qaa)) :
 Calls Tryz.prog 100 #[.agg (Gm.cells g (.slice A n c))] w fun e w' => e = .returned (.bool true) /\ Below w.heap.size w w' := by
 obtain ⟨hf1, hf2, hl, hships, hshots⟩ := hg
 have d1 : decide (g.frame < 0) = false := decide_eq_false (by omega)
 have d2 : decide (1048576 < g.frame) = false := decide_eq_false (by omega)
 have d3 : decide (32 < (n : Int)) = false := decide_eq_false (by omega)
 have B0 := Box.made w 33 (Gm.cells g (.slice A n c))
 have hb0 := qac w (.cells (Gm.cells g (.slice A n c)) 33)
 have c1 := qh (qhd g.ship (some ⟨w.heap.size, 2, none⟩) 8 _ hships (qgi B0))
 have c2 := fun X (hX : Below w.heap.size w X) => qh (qlf g.qaa A n c X hshots hn (by omega) ((hr.below hX).wider hX.size))
 have hc : ∀ j, (w.alloc (.cells (Gm.cells g (.slice A n c)) 33)).cell? ⟨w.heap.size, j, none⟩ = (Gm.cells g (.slice A n c))[j]? := fun j => B0.cell j
 have h0 := Gm.qaS g (.slice A n c)
 have h58 := Gm.qaZ g (.slice A n c)
 have BB := qh B0
 have HB := qh hb0
 clear hr hships hshots B0 hb0 hn
 go_enter Tryz.func100, Tryz.ntmps100
 go_wp2_with (first | (go_at_call 128; ((with_reducible refine ((c1).out).mono ?_); rintro e w1 ⟨rfl, hb1⟩; have hc1 := (BB.out.below hb1 BB.out.lt).cell; have HB1 := qh (HB.out.trans (hb1.mono HB.out.size)))) | (go_at_call 130; ((with_reducible refine ((c2 _ (HB1.out)).out).mono ?_); rintro e w2 ⟨rfl, hb2⟩)))
 go_ret
 exact ⟨rfl, HB1.out.trans (hb2.mono HB1.out.size)⟩
theorem ifs7 (w : World) (a b c d e f g : Bool) : (if a = true then if b = true then if c = true then if d = true then if e = true then if f = true then if g = true then Result.ok true w else Result.ok false w else Result.ok false w else Result.ok false w else Result.ok false w else Result.ok false w else Result.ok false w else Result.ok false w) = Result.ok (a && (b && (c && (d && (e && (f && g)))))) w := by
 cases a <;> cases b <;> cases c <;> cases d <;> cases e <;> cases f <;> cases g <;> rfl
theorem qpM (s t : Gm.Ship) (w : World) : (Op.equalIn 9999 29 (.agg s.cells.toArray) (.agg t.cells.toArray)).run Tryz.prog w = .ok (s.eqB t) w := by
 obtain ⟨a1, a2, a3, a4, a5, a6, a7⟩ := s
 obtain ⟨b1, b2, b3, b4, b5, b6, b7⟩ := t
 have h := ifs7 w (a1 == b1) (a2 == b2) (a3 == b3) (a4 == b4) (a5 == b5) (a6 == b6) (a7 == b7)
 simp only [beq_iff_eq] at h
 simp only [Gm.Ship.cells]
 go_simp
 rfl
theorem qgj : (Tryz.prog.info? 29).map (·.size) = some 7 := by kernel_rfl
theorem qi1 (f : Nat -> Gm.Ship) (i : Nat) (hi : i < 8) (w : World) : (part 29 (Gm.qax f).toArray (i * 7)).run Tryz.prog w = .ok (.agg (f i).cells.toArray) w := by
 have h := Gm.qhm f i hi
 cases hq : Tryz.prog.info? 29 with
 | none => have := qgj; simp [hq] at this
 | some j =>
  have hs : j.size = 7 := by have := qgj; simpa [hq] using this
  simp [part, isAgg, sizeOf, typeInfo, hq, hs, run_underlying (Tryz.underlying29) w, h]
theorem qlm (f g : Nat -> Gm.Ship) (w : World) : (Op.equalIn 10000 30 (.agg (Gm.qax f).toArray) (.agg (Gm.qax g).toArray)).run Tryz.prog w = .ok (Gm.qc9 f g) w := by
 cases hq : Tryz.prog.info? 29 with
 | none => have := qgj; simp [hq] at this
 | some j =>
  have hs : Tryz.prog.cellsOf 29 = 7 := by kernel_rfl
  rw [run_equalIn_array w 9999 _ _ Tryz.underlying30 hq, hs]
  exact qcN w 9999 _ 7 _ _ (fun i => .agg (f i).cells.toArray) (fun i => .agg (g i).cells.toArray) (fun i => (f i).eqB (g i)) (List.range 8)
   (fun i hi => ⟨qi1 f i (by simpa using hi) w, qi1 g i (by simpa using hi) w, qpM _ _ w⟩)
theorem qnu (f g : Nat -> Gm.Ship) (w : World) : (binOp .neq 30 (.agg (Gm.qax f).toArray) (.agg (Gm.qax g).toArray)).run Tryz.prog w = .ok (.bool (!Gm.qc9 f g)) w := by
 simp only [binOp]
 simp [Op.equal, Op.maxDepth, qlm]
theorem qnv (f g : Nat -> Gm.Ship) (w : World) : (binOp .eql 30 (.agg (Gm.qax f).toArray) (.agg (Gm.qax g).toArray)).run Tryz.prog w = .ok (.bool (Gm.qc9 f g)) w := by
 simp only [binOp]
 simp [Op.equal, Op.maxDepth, qlm]
end Go.Proofs.YtbdlpbnfcnhajaaGreat