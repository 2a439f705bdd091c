/-
Several texts in one: Zb Zev Ex Eu Ey Et Es Eh Ek Ev.
-/
import Derived.Test.YtgmlbimgcifenaaVz4
set_option maxRecDepth 100000
set_option maxHeartbeats 8000000
set_option linter.unusedVariables false
set_option linter.unusedSimpArgs false
namespace Im
open Go
def decN {α : Type} (dec : List Int → Option (α × List Int)) : Nat → List Int → Option (List α × List Int)
  | 0, bs => some ([], bs)
  | n + 1, bs => (dec bs).bind fun q => (decN dec n q.2).bind fun r => some (q.1 :: r.1, r.2)
def decL {α : Type} (size : Nat) (dec : List Int → Option (α × List Int)) (bs : List Int) : Option (List α × List Int) := (rdn size bs).bind fun n => decN dec n.1.toNat n.2
section
variable {α : Type} {dec : List Int → Option (α × List Int)}
def decFrom (dec : List Int → Option (α × List Int)) (l : List α) (n : Nat) (bs : List Int) : Option (List α × List Int) := (decN dec n bs).bind fun r => some (l ++ r.1, r.2)
theorem decFrom_nil (n : Nat) (bs : List Int) : decFrom dec [] n bs = decN dec n bs := by
  unfold decFrom
  cases decN dec n bs <;> rfl
theorem decFrom_zero (l : List α) (bs : List Int) : decFrom dec l 0 bs = some (l, bs) := by
  unfold decFrom decN
  simp
theorem decFrom_some {l : List α} {n : Nat} {bs rest : List Int} {v : α} (h : dec bs = some (v, rest)) : decFrom dec l (n + 1) bs = decFrom dec (l ++ [v]) n rest := by
  unfold decFrom
  rw [decN, h, Option.bind_some]
  cases decN dec n rest <;> simp
theorem decFrom_none {l : List α} {n : Nat} {bs : List Int} (h : dec bs = none) : decFrom dec l (n + 1) bs = none := by
  unfold decFrom
  rw [decN, h]
  rfl
end
theorem flat_take {ys : List (List Int)} {k : Nat} (h : k < ys.length) : (ys.take (k + 1)).flatten = (ys.take k).flatten ++ ys.getD k [] := by
  have e : ys.getD k [] = ys[k] := by simp [h]
  rw [List.take_succ_eq_append_getElem h, List.flatten_append, e]
  simp
theorem flat_le (ys : List (List Int)) (k : Nat) : (ys.take k).flatten.length ≤ ys.flatten.length := by
  have h : ys.flatten.length = (ys.take k).flatten.length + (ys.drop k).flatten.length := by
    rw [← List.length_append, ← List.flatten_append, List.take_append_drop]
  omega
end Im
namespace Go.Proofs.Ytgmlbimgcifenaa
open Go.RowKit Go.Shelf
def VarK (Bb P : Nat) (w w' : World) : Prop := ∀ g cs, Box w g 27 cs → g ≠ Bb → g ≠ P → Box w' g 27 cs
section
variable {b Bb P L : Nat} {w w' w'' : World}
theorem VarK.refl (w : World) : VarK Bb P w w := fun _ _ h _ _ => h
theorem VarK.trans (h : VarK Bb P w w') (k : VarK Bb P w' w'') : VarK Bb P w w'' := fun g cs hg h1 h2 => k g cs (h g cs hg h1 h2) h1 h2
theorem VarK.call (h : VarK Bb P w w') (hb : Below w'.heap.size w' w'') : VarK Bb P w w'' := fun g cs hg h1 h2 => (h g cs hg h1 h2).below hb (h g cs hg h1 h2).lt
theorem VarK.wrote (h : VarK Bb P w w') (k : Wrote b Bb w' w'') : VarK Bb P w w'' := fun g cs hg h1 h2 => (h g cs hg h1 h2).wrote k h1 (by decide)
theorem VarK.put (h : VarK Bb P w w') (i : Nat) (u : Value) : VarK Bb P w (w'.setCell ⟨P, i, none⟩ u) := fun g cs hg h1 h2 => (h g cs hg h1 h2).far (p := ⟨P, i, none⟩) h2 u
theorem VarK.rowB (h : VarK Bb P w w') (cs' : Array Value) : VarK Bb P w (w'.setRow P cs') := fun g cs hg h1 h2 => (h g cs hg h1 h2).row_far h2 cs'
theorem VarK.fresh (h : VarK Bb P w w') (k : VarK Bb L w' w'') (hL : w.heap.size ≤ L) : VarK Bb P w w'' := fun g cs hg h1 h2 => k g cs (h g cs hg h1 h2) h1 (by have := hg.lt; omega)
end
def EachW (fe : Nat) (T : TypeId) (sz : Nat) (C : List Value) (ys : List (List Int)) (b Bb Bp : Nat) (w : World) : Prop :=
  ∀ (k S : Nat) (X : World) (Y : Array Value) (bs : List Int), k < ys.length → Below b w X → b ≤ S → Wr b Bb Bp bs X → bs.length + (ys.getD k []).length ≤ 65536 → Box X S T Y → (∀ j, j < sz → Y[k * sz + j]? = C[k * sz + j]?) →
    Calls Try.prog fe #[.func (.func 54) #[] #[.pointer (some ⟨Bp, 0, none⟩)], .pointer (some ⟨S, k * sz, none⟩)] X fun e w' => e = .returned (.tuple #[]) ∧ Wr b Bb Bp (bs ++ ys.getD k []) w' ∧ Below b X w' ∧ Kb S X w' ∧ VarK Bb S X w' ∧ ∃ Y', Box w' S T Y' ∧ Y'.size = Y.size ∧ ∀ j, (j < k * sz ∨ k * sz + sz ≤ j) → Y'[j]? = Y[j]?
def EachR {α : Type} (fe : Nat) (T : TypeId) (sz : Nat) (zc : List Value) (dec : List Int → Option (α × List Int)) (Good : World → α → List Value → Prop) (b Bb Bp : Nat) (w : World) : Prop :=
  ∀ (k S : Nat) (X : World) (Y : Array Value) (bs : List Int), Im.IsBytes bs → Below b w X → b ≤ S → b ≤ X.heap.size → Rd b Bb Bp bs X → Box X S T Y → (∀ j, j < sz → Y[k * sz + j]? = zc[j]?) →
    Calls Try.prog fe #[.func (.func 60) #[] #[.pointer (some ⟨Bp, 0, none⟩)], .pointer (some ⟨S, k * sz, none⟩)] X fun e w' =>
      (∃ v rest C, dec bs = some (v, rest) ∧ e = .returned (.tuple #[]) ∧ Im.IsBytes rest ∧ Rd b Bb Bp rest w' ∧ Rk b Bb S X w' ∧ C.length = sz ∧ Good w' v C ∧ ∃ Y', Box w' S T Y' ∧ Im.Patch Y (k * sz) C Y') ∨
      (dec bs = none ∧ Pan e ∧ Rk b Bb S X w')
def AllGood {α : Type} (sz : Nat) (Good : α → List Value → Prop) : List α → List (List Value) → Prop
  | [], [] => True
  | v :: l, C :: Cs => C.length = sz ∧ Good v C ∧ AllGood sz Good l Cs
  | _, _ => False
section
variable {α : Type} {sz : Nat} {Good Good' : α → List Value → Prop}
theorem AllGood.snoc : ∀ {l : List α} {Cs : List (List Value)}, AllGood sz Good l Cs → ∀ {v : α} {C : List Value}, C.length = sz → Good v C → AllGood sz Good (l ++ [v]) (Cs ++ [C])
  | [], [], _, v, C, h1, h2 => ⟨h1, h2, trivial⟩
  | _ :: _, _ :: _, h, v, C, h1, h2 => ⟨h.1, h.2.1, h.2.2.snoc h1 h2⟩
  | [], _ :: _, h, _, _, _, _ => h.elim
  | _ :: _, [], h, _, _, _, _ => h.elim
theorem AllGood.mono (hG : ∀ v C, Good v C → Good' v C) : ∀ {l : List α} {Cs : List (List Value)}, AllGood sz Good l Cs → AllGood sz Good' l Cs
  | [], [], _ => trivial
  | _ :: _, _ :: _, h => ⟨h.1, hG _ _ h.2.1, h.2.2.mono hG⟩
  | [], _ :: _, h => h.elim
  | _ :: _, [], h => h.elim
theorem AllGood.len : ∀ {l : List α} {Cs : List (List Value)}, AllGood sz Good l Cs → Cs.length = l.length ∧ Cs.flatten.length = l.length * sz
  | [], [], _ => ⟨rfl, by simp⟩
  | _ :: l, _ :: Cs, h => by
    have := h.2.2.len
    refine ⟨by simp [this.1], ?_⟩
    rw [List.flatten_cons, List.length_append, h.1, this.2, List.length_cons, Nat.add_mul]; omega
  | [], _ :: _, h => h.elim
  | _ :: _, [], h => h.elim
end
def GotL {α : Type} (T : TypeId) (sz : Nat) (D : Option (List α × List Int)) (Good : World → α → List Value → Prop) (b Bb Bp P o : Nat) (t : TypeId) (cs : Array Value) (w : World) (e : Ending) (w' : World) : Prop :=
  (∃ l rest S Cs, D = some (l, rest) ∧ e = .returned (.tuple #[]) ∧ Im.IsBytes rest ∧ Rd b Bb Bp rest w' ∧ Rk b Bb P w w' ∧ w.heap.size ≤ S ∧ Box w' P t (cs.setIfInBounds o (.slice (some ⟨S, 0, none⟩) l.length l.length)) ∧ Box w' S T Cs.flatten.toArray ∧ AllGood sz (Good w') l Cs) ∨
  (D = none ∧ Pan e ∧ Rk b Bb P w w' ∧ Box w' P t cs)
theorem Im.Patch.snoc {Y Y' : Array Value} {Cs : List (List Value)} {z C : List Value} {n k sz : Nat} (h : Im.Patch Y (k * sz) C Y') (hY : ∀ j, Y[j]? = if j < k * sz then Cs.flatten[j]? else if j < n * sz then z[j % sz]? else none) (hC : C.length = sz) (hk : k < n) (hl : Cs.flatten.length = k * sz) : ∀ j, Y'[j]? = if j < (k + 1) * sz then (Cs ++ [C]).flatten[j]? else if j < n * sz then z[j % sz]? else none := fun j => by
  have e : (k + 1) * sz = k * sz + sz := by rw [Nat.add_mul]; omega
  have e2 : (Cs ++ [C]).flatten = Cs.flatten ++ C := by simp
  have hkn : (k + 1) * sz ≤ n * sz := Nat.mul_le_mul_right _ hk
  rw [h j, e, e2, hC]
  by_cases h1 : j < k * sz
  · rw [if_neg (by omega), if_pos (by omega), hY j, if_pos h1, List.getElem?_append_left (by omega)]
  · by_cases h2 : j < k * sz + sz
    · rw [if_pos (by omega), if_pos h2, List.getElem?_append_right (by omega), hl]
    · rw [if_neg (by omega), if_neg (by omega), hY j, if_neg h1]
theorem made_rows (z : Array Value) (n : Nat) (hz : 0 < z.size) : ∀ j, (madeCells z (n * z.size))[j]? = if j < 0 * z.size then ([] : List (List Value)).flatten[j]? else if j < n * z.size then z.toList[j % z.size]? else none := fun j => by
  rw [if_neg (by omega)]
  by_cases hj : j < n * z.size
  · rw [if_pos hj]
    unfold madeCells
    rw [Array.getElem?_map, Array.getElem?_range, if_pos hj]
    have h2 := Nat.mod_lt j hz
    simp [h2]
  · rw [if_neg hj]
    exact Array.getElem?_eq_none (by rw [size_madeCells]; omega)
end Go.Proofs.Ytgmlbimgcifenaa
namespace Go.Proofs.Ytgmlbimgcifenaa
open Go.RowKit Go.Shelf
theorem zev_infoZ : (Try.prog.info? 59).map (fun i => (i.zero, i.size, i.bytes)) = some (some (Value.agg #[.int .i64 0, .int .i64 0, .int .i64 0, .int .i64 0]), 4, 32) := by kernel_rfl
theorem zev_sz : (Try.prog.info? 59).map (·.size) = some 4 := by kernel_rfl
theorem listzev_w (C : List Value) (ys : List (List Int)) (n : Nat) (A : Option Addr) (c size : Nat) (z : Int) (hz : z = size) (P o : Nat) (t : TypeId) (cs : Array Value) (bs : List Int) (b Bb Bp : Nat) (w : World) (hn : ys.length = n) (hn16 : n ≤ 4096) (hs : size ≤ 8) (hbB : b ≤ Bb) (hbP : b ≤ P) (hbw : b ≤ w.heap.size) (h : Wr b Bb Bp bs w) (hl : bs.length + size + ys.flatten.length ≤ 65536) (hP : Box w P t cs)
    (ho : cs[o]? = some (.slice A n c)) (hL : Lies w b 4 A n C) (hone : ∀ u ∈ C, u.oneCell' = true) (h1 : t ≠ 27) (h2 : t ≠ 5) (h3 : t ≠ 68) (hc : EachW 96 59 4 C ys b Bb Bp w) :
    Calls Try.prog 95 #[.func (.func 54) #[] #[.pointer (some ⟨Bp, 0, none⟩)], .int .i64 z, .pointer (some ⟨P, o, none⟩), .func (.func 96) #[] #[]] w fun e w' => e = .returned (.tuple #[]) ∧ Wr b Bb Bp (bs ++ (Im.bytesOf size n ++ ys.flatten)) w' ∧ Below b w w' ∧ Kb P w w' ∧ VarK Bb P w w' ∧ ∃ S, Box w' P t (cs.setIfInBounds o (.slice (some ⟨S, 0, none⟩) n n)) := by
  subst hz
  have k0 := hP.cell o
  rw [ho] at k0
  have ltP := hP.lt
  have hwn : IntKind.u64.wrap (n : Int) = n := by rw [IntKind.wrap_u64]; omega
  have HL := qh (Box.made w 3 #[.int .i64 n])
  have HPA := qh (hP.alloc (.cells #[.int .i64 n] 3))
  have HA := qh (h.alloc (.cells #[.int .i64 n] 3))
  have WA := qh ((Wrote.refl hbB w).alloc (.cells #[.int .i64 n] 3))
  have KA := qh ((Kb.refl (B := P) w).call (one_below w (.cells #[.int .i64 n] 3)))
  have VA := qh ((VarK.refl (Bb := Bb) (P := P) w).call (one_below w (.cells #[.int .i64 n] 3)))
  have c1 := qh (layint_w size size rfl n w.heap.size 0 3 #[.int .i64 n] bs b Bb Bp _ hs (by omega) hbB HA.out (by omega) HL.out rfl (by decide) (by decide) (by decide))
  rw [hwn] at c1
  have hvar := qh HA.out.isvar
  have HO := qh ho
  have HLs := qh hL
  obtain ⟨i0, hi0, hz0, hz1, hz2⟩ := info_parts zev_infoZ
  obtain ⟨Z, hZ⟩ : ∃ Z, Z = madeCells (Value.agg #[.int .i64 0, .int .i64 0, .int .i64 0, .int .i64 0]).cells (n * 4) := ⟨_, rfl⟩
  have hZs : Z.size = n * 4 := by rw [hZ, size_madeCells]
  have hCs : C.length = n * 4 := hL.len
  have hmk : ∀ W : World, (Instr.makeSlice 47 (.int .i64 (n : Int)) (.int .i64 (n : Int))).run Try.prog W = .ok (.slice (some ⟨W.heap.size, 0, none⟩) n n) (W.alloc (.cells Z 59)) := fun W => by
    have := run_make (P := Try.prog) W 47 59 i0 _ Try.underlying47 hi0 hz0 .i64 .i64 n n (by omega) (Int.le_refl _) (by rw [hz2]; omega) (by omega)
    rw [this, hZ, hz1, Int.toNat_natCast]
  have hcp : ∀ W : World, Lies W W.heap.size 4 A n C → (Builtin.copy_ #[47, 47] 3 #[.slice (some ⟨W.heap.size, 0, none⟩) n n, .slice A n c]).run Try.prog (W.alloc (.cells Z 59)) = .ok (.int .i64 n) (W.alloc (.cells C.toArray 59)) := fun W hW => by
    cases A with
    | none =>
      have hn0 : n = 0 := by
        by_cases h0 : n = 0
        · exact h0
        · obtain ⟨ad, e, _⟩ := hW.start h0
          cases e
      have hl0 : C = [] := List.eq_nil_of_length_eq_zero (by omega)
      have hz : Z = #[] := Array.eq_empty_of_size_eq_zero (by omega)
      have := run_copy_nought (P := Try.prog) (W.alloc (.cells Z 59)) 47 47 3 59 ⟨W.heap.size, 0, none⟩ n n c Try.underlying47 (by rw [Option.isSome_map]; rw [hi0]; rfl)
      rw [hn0] at this ⊢
      rw [hl0]
      rw [hz] at this ⊢
      simpa [goInt] using this
    | some ad =>
      have hc : ∀ j v, C[j]? = some v → (W.alloc (.cells Z 59)).cell? (ad.add j) = some v := fun j v hv => by
        have hn0 : n ≠ 0 := fun e => by
          have := (List.getElem?_eq_some_iff.1 hv).1
          omega
        exact (hW.below (one_below W (.cells Z 59))).cell ad rfl hn0 j v hv
      have := run_copy_rows (P := Try.prog) (W.alloc (.cells Z 59)) 47 47 3 59 4 W.heap.size n n ad n c Z 59 C Try.underlying47 zev_sz (Box.made W _ _).is (by rw [hW.len]; simp) hc (by rw [hW.len, hZs]) hone
      rw [World.setRow_alloc_new] at this
      simpa [goInt] using this
  have NL := qh hn
  have HC := qh hc
  have HCS := qh hCs
  clear h hP ho hL hZ hn hc hCs
  go_enter Try.func95, Try.ntmps95
  go_upto_region 2 with (go_at_call 51; ((with_reducible refine (c1.out).mono ?_); rintro e w1 ⟨rfl, hI1, hK1⟩; have L1 := HL.out.wrote' hK1 hvar.out (by decide) (by decide); have l1 := L1.cell 0; have P1 := qh (HPA.out.wrote' hK1 hvar.out h1 h2); have I1 := qh hI1; have K1 := qh (WA.out.trans hK1); have B1 := qh (KA.out.wrote hK1 hvar.out); have V1 := qh (VA.out.wrote hK1); clear hI1 hK1 L1 k0))
  have lw1 := (HLs.out.below (K1.out.to hbw))
  have hcpw := hcp w1 (lw1.wider (Nat.le_trans hbw K1.out.size))
  have p58 : ∀ x, (w1.alloc x).cell? ⟨P, o, none⟩ = some (.slice A n c) := fun x => ((P1.out.alloc x).cell o).trans HO.out
  have sz1 : w.heap.size ≤ w1.heap.size := K1.out.size
  clear hcp lw1 HLs HL HPA HA WA KA VA c1
  go_upto_region 4 with fail
  obtain ⟨U, hU⟩ : ∃ U, U = w1.alloc (.cells C.toArray 59) := ⟨_, rfl⟩
  have PU : Box U P t cs := by rw [hU]; exact P1.out.alloc _
  have SU : Box U w1.heap.size 59 C.toArray := by rw [hU]; exact Box.made w1 _ _
  have IU : Wr b Bb Bp (bs ++ Im.bytesOf size n) U := by rw [hU]; exact I1.out.alloc _
  have BU : Below b w U := by rw [hU]; exact (K1.out.to hbw).alloc (Nat.le_trans hbw sz1) _
  have KU : Kb P w U := by rw [hU]; exact B1.out.call (one_below _ _)
  have VU : VarK Bb P w U := by rw [hU]; exact V1.out.call (one_below _ _)
  have hSP : w1.heap.size ≠ P := by have := P1.out.lt; omega
  have hbS : b ≤ w1.heap.size := Nat.le_trans hbw sz1
  have hSw : w.heap.size ≤ w1.heap.size := sz1
  rw [← hU]
  generalize w1.heap.size = S at *
  have IU := qh IU
  have PU := qh PU
  have SU := qh SU
  have BU := qh BU
  have KU := qh KU
  have VU := qh VU
  clear hU I1 K1 P1 B1 V1 p58 hcpw hmk l1 hvar sz1
  go_upto_region 5 with fail
  go_loopw [10, 27] (fun _ i wr => ∃ k : Nat, k ≤ n ∧ i = .int .i64 k ∧ Wr b Bb Bp (bs ++ Im.bytesOf size n ++ (ys.take k).flatten) wr ∧ Below b U wr ∧ Kb S U wr ∧ VarK Bb S U wr ∧ ∃ Y, Box wr S 59 Y ∧ Y.size = C.length ∧ ∀ j, k * 4 ≤ j → Y[j]? = C[j]?) (fun _ i _ => n - (intOf i).toNat)
  case atStart => exact ⟨0, by omega, rfl, by simpa using IU.out, Below.refl _ _, Kb.refl _, VarK.refl _, _, SU.out, by simp, fun j _ => by simp⟩
  case round =>
    obtain ⟨k, hk, rfl, hI, hB, hK, hVK, Y, hY, hYs, hYc⟩ := hrel
    by_cases hlt : k < n
    · have hk8 : (k : Int) < n := by omega
      have hkl : k < ys.length := by have := NL.out; omega
      have ht := Im.flat_take hkl
      have hle := Im.flat_le ys (k + 1)
      rw [ht, List.length_append] at hle
      have HT := qh ht
      have cc := qh (HC.out k S wr Y (bs ++ Im.bytesOf size n ++ (ys.take k).flatten) hkl (BU.out.trans hB) hbS hI (by rw [List.length_append, List.length_append, Im.bytesOf_len]; omega) hY (fun j hj => hYc _ (by omega)))
      have HB := qh hB
      have HK := qh hK
      have HVK := qh hVK
      have HYs := qh hYs
      have HYc := qh hYc
      clear ht hle hI hB hK hVK hYs hYc hY
      go_wp2_with (go_at_call 96; ((with_reducible refine (cc.out).mono ?_); rintro e w3 ⟨rfl, hI, hB, hK, hVK, Y', hY, hYs, hYc⟩; have V3 := qh (HVK.out.trans hVK); have I3 := qh hI; have B3 := qh (HB.out.trans hB); have K3 := qh (HK.out.trans hK); have Y3 := qh hY; have Z3 := qh (hYs.trans HYs.out); have C3 := qh hYc; clear hI hB hK hVK hY hYs hYc))
      go_roundw
      case rel => exact ⟨k + 1, by omega, by go_num, by rw [HT.out, ← List.append_assoc]; exact I3.out, B3.out, K3.out, V3.out, Y', Y3.out, Z3.out, fun j hj => by rw [C3.out j (by omega)]; exact HYc.out j (by omega)⟩
      case measure => simp [intOf]; omega
    · have hk8 : ¬ (k : Int) < n := by omega
      obtain rfl : k = n := by omega
      have ht : ys.take k = ys := List.take_of_length_le (by have := NL.out; omega)
      rw [ht] at hI
      have HI := qh hI
      have HK := qh hK
      have HB := qh hB
      have HVK := qh hVK
      have PW := qh (hK P t cs PU.out hSP.symm h1 h2)
      have pc : wr.cell? ⟨P, o, none⟩ = some (.slice A k c) := (PW.out.cell o).trans HO.out
      have pf : wr.frozen? ⟨P, o, none⟩ = false := PW.out.free o
      clear hI hK hB hVK hY hYs hYc
      go_wp2
      go_end0
      exact ⟨rfl, by rw [← List.append_assoc]; exact HI.out.off (p := ⟨P, o, none⟩) PW.out h3 h1 h2 _, (BU.out.trans HB.out).setCell hbP _, (KU.out.fresh HK.out hSw).put o _, (VU.out.fresh HVK.out hSw).put o _, S, PW.out.put o _⟩
theorem listzev_r {α : Type} (dec : List Int → Option (α × List Int)) (Good : World → α → List Value → Prop) (size : Nat) (z : Int) (hz : z = size) (P o : Nat) (t : TypeId) (cs : Array Value) (bs : List Int) (b Bb Bp : Nat) (w : World) (hBy : Im.IsBytes bs) (hs : 1 ≤ size ∧ size ≤ 2) (hbB : b ≤ Bb) (hbP : b ≤ P) (hbw : b ≤ w.heap.size) (h : Rd b Bb Bp bs w) (hP : Box w P t cs)
    (ho : cs[o]? = some (.slice none 0 0)) (h1 : t ≠ 27) (h2 : t ≠ 5) (h3 : t ≠ 68)
    (hG1 : ∀ X X' S Y v C, Box X S 59 Y → Kb S X X' → Good X v C → Good X' v C) (hG2 : ∀ X X' Y v C, Box X P t Y → Kb P X X' → Good X v C → Good X' v C)
    (hc : EachR 96 59 4 (Value.agg #[.int .i64 0, .int .i64 0, .int .i64 0, .int .i64 0]).cells.toList dec Good b Bb Bp w) :
    Calls Try.prog 95 #[.func (.func 60) #[] #[.pointer (some ⟨Bp, 0, none⟩)], .int .i64 z, .pointer (some ⟨P, o, none⟩), .func (.func 96) #[] #[]] w (GotL 59 4 (Im.decL size dec bs) Good b Bb Bp P o t cs w) := by
  subst hz
  have k0 := hP.cell o
  rw [ho] at k0
  have ltP := hP.lt
  have HPA := qh (hP.alloc (.cells #[.int .i64 0] 3))
  have HKA := qh (Rk.alloc (w := w) (Bb := Bb) (P := P) hbw (.cells #[.int .i64 0] 3))
  have c1 := qh (part_int size size rfl 0 w.heap.size 0 3 #[.int .i64 0] bs b Bb Bp _ (by omega) hBy hbB hbw (by simp <;> omega) (h.call (one_below w (.cells #[.int .i64 0] 3)) hbw) (Box.made w 3 #[.int .i64 0]) rfl (by decide) (by decide) (by decide))
  obtain ⟨i0, hi0, hz0, hz1, hz2⟩ := info_parts zev_infoZ
  have hmk : ∀ (n : Nat), n < 65536 → ∀ W : World, (Instr.makeSlice 47 (.int .i64 (n : Int)) (.int .i64 (n : Int))).run Try.prog W = .ok (.slice (some ⟨W.heap.size, 0, none⟩) n n) (W.alloc (.cells (madeCells (Value.agg #[.int .i64 0, .int .i64 0, .int .i64 0, .int .i64 0]).cells (n * 4)) 59)) := fun n hn W => by
    have := run_make (P := Try.prog) W 47 59 i0 _ Try.underlying47 hi0 hz0 .i64 .i64 n n (by omega) (Int.le_refl _) (by rw [hz2]; omega) (by omega)
    rw [this, hz1, Int.toNat_natCast]
  have hcp : ∀ (n : Nat) (Z : Array Value) (W : World), (Builtin.copy_ #[47, 47] 3 #[.slice (some ⟨W.heap.size, 0, none⟩) n n, .slice none 0 0]).run Try.prog (W.alloc (.cells Z 59)) = .ok (.int .i64 0) (W.alloc (.cells Z 59)) := fun n Z W => by
    have := run_copy_nought (P := Try.prog) (W.alloc (.cells Z 59)) 47 47 3 59 ⟨W.heap.size, 0, none⟩ n n 0 Try.underlying47 (by rw [Option.isSome_map]; rw [hi0]; rfl)
    simpa [goInt] using this
  have HO := qh ho
  have HB := qh hbP
  have HW := qh hbw
  have HY := qh hBy
  have HC := qh hc
  have G1 := qh hG1
  have G2 := qh hG2
  have HS := qh hs
  clear h hP ho hBy hc hG1 hG2 hs
  go_enter Try.func95, Try.ntmps95
  go_upto_region 2 with (go_at_call 51; ((with_reducible refine (c1.out).mono ?_); rintro r w1 (⟨m, r1, hr, rfl, hI, hK, hB1⟩ | ⟨hn, ⟨ss, rfl⟩, hK, cs', hB1, hs⟩); (all_goals first | (have R1 := qh hr; have Y1 := qh (Im.rdn_inv HY.out hr); have l1 := hB1.cell 0; have P1 := qh (hK.kb _ _ _ HPA.out (by omega) h1 h2); have I1 := qh hI; have K1 := qh (HKA.out.local hK (Nat.le_refl _)); clear hr hI hK hB1 c1 k0) | (have N1 := qh hn; have F1 := qh (HKA.out.local hK (Nat.le_refl _)); have Q1 := qh (hK.kb _ _ _ HPA.out (by omega) h1 h2); clear hn hK hB1 hs c1 k0))))
  rotate_left
  · refine ⟨rfl, .inr ⟨?_, ⟨_, rfl⟩, F1.out, Q1.out⟩⟩
    unfold Im.decL
    rw [N1.out, Option.bind_none]
  obtain ⟨n, hmn⟩ : ∃ n : Nat, m = n := ⟨m.toNat, by have := Y1.out.2.1; omega⟩
  subst hmn
  have hn256 : n < 65536 := by
    have h1 := Y1.out.2.2.1
    have h2 : (2 : Int) ^ (8 * size) ≤ 2 ^ 16 := by
      have := Nat.pow_le_pow_right (show 0 < 2 by decide) (show 8 * size ≤ 16 by have := HS.out; omega)
      exact_mod_cast this
    omega
  have HDE := qh (show Im.decL size dec bs = Im.decFrom dec [] n r1 by unfold Im.decL; rw [R1.out, Option.bind_some, Int.toNat_natCast, Im.decFrom_nil])
  simp only [List.getElem?_toArray, Array.setIfInBounds, List.size_toArray, List.length_cons, List.length_nil, Nat.zero_add, Nat.lt_add_one, dite_true, List.set_toArray, List.set_cons_zero, List.getElem?_cons_zero] at l1
  have hmkn := hmk n hn256
  obtain ⟨Z, hZ⟩ : ∃ Z, Z = madeCells (Value.agg #[.int .i64 0, .int .i64 0, .int .i64 0, .int .i64 0]).cells (n * 4) := ⟨_, rfl⟩
  rw [← hZ] at hmkn
  have HZ := qh (show ∀ j, Z[j]? = if j < 0 * 4 then ([] : List (List Value)).flatten[j]? else if j < n * 4 then (Value.agg #[.int .i64 0, .int .i64 0, .int .i64 0, .int .i64 0]).cells.toList[j % 4]? else none from by rw [hZ]; exact made_rows (Value.agg #[.int .i64 0, .int .i64 0, .int .i64 0, .int .i64 0]).cells n (by decide))
  have hcpw := hcp n Z w1
  have p58 : ∀ x, (w1.alloc x).cell? ⟨P, o, none⟩ = some (.slice none 0 0) := fun x => ((P1.out.alloc x).cell o).trans HO.out
  have s1 := Nat.le_trans HW.out K1.out.below.size
  have sz1 := K1.out.below.size
  clear hcp HPA HKA hmk hZ
  go_upto_region 4 with fail
  obtain ⟨U, hU⟩ : ∃ U, U = w1.alloc (.cells Z 59) := ⟨_, rfl⟩
  have PU := qh (show Box U P t cs by (rw [hU]; exact P1.out.alloc _))
  have SU := qh (show Box U w1.heap.size 59 Z by (rw [hU]; exact Box.made w1 _ _))
  have IU := qh (show Rd b Bb Bp r1 U by (rw [hU]; exact I1.out.call (one_below w1 _) s1))
  have KU := qh (show Rk b Bb P w U by (rw [hU]; exact K1.out.trans (Rk.alloc (w := w1) (Bb := Bb) (P := P) s1 _)))
  have hSB : Hid (w1.heap.size ≠ P) := qh (by have := P1.out.lt; omega)
  have hSw : Hid (b ≤ w1.heap.size) := qh s1
  have hSz : Hid (w.heap.size ≤ w1.heap.size) := qh sz1
  rw [← hU]
  generalize w1.heap.size = S at *
  clear hU I1 K1 P1 p58 hcpw hmkn l1 s1 sz1
  have hbU : b ≤ U.heap.size := Nat.le_trans HW.out KU.out.below.size
  go_upto_region 5 with fail
  go_loopw [10, 27] (fun _ i wr => ∃ (k : Nat) (l : List α) (Cs : List (List Value)) (bs' : List Int), k ≤ n ∧ i = .int .i64 k ∧ l.length = k ∧ Im.IsBytes bs' ∧ Im.decFrom dec [] n r1 = Im.decFrom dec l (n - k) bs' ∧ Rd b Bb Bp bs' wr ∧ Rk b Bb S U wr ∧ AllGood 4 (Good wr) l Cs ∧ ∃ Y, Box wr S 59 Y ∧ ∀ j, Y[j]? = if j < k * 4 then Cs.flatten[j]? else if j < n * 4 then (Value.agg #[.int .i64 0, .int .i64 0, .int .i64 0, .int .i64 0]).cells.toList[j % 4]? else none) (fun _ i _ => n - (intOf i).toNat)
  case atStart => exact ⟨0, [], [], r1, by omega, rfl, rfl, Y1.out.2.2.2, rfl, IU.out, Rk.refl _ _ _ _, trivial, Z, SU.out, HZ.out⟩
  case round =>
    obtain ⟨k, l, Cs, bs', hk, rfl, hlen, hy, hdec, hI, hK, hA, Y, hB, hYc⟩ := hrel
    by_cases hlt : k < n
    · have hk8 : (k : Int) < n := by omega
      rw [show n - k = (n - (k + 1)) + 1 by omega] at hdec
      have hwy : b ≤ wr.heap.size := Nat.le_trans hbU hK.below.size
      have hkn : (k + 1) * 4 ≤ n * 4 := Nat.mul_le_mul_right _ hlt
      have cc := qh (HC.out k S wr Y bs' hy (KU.out.below.trans hK.below) hSw.out hwy hI hB (fun j hj => by rw [hYc, if_neg (by omega), if_pos (by omega)]; congr 1; omega))
      have HNX := qh hdec
      have HLEN := qh hlen
      have K2 := qh hK
      have HA := qh hA
      have HBX := qh hB
      have HYC := qh hYc
      clear hI hK hB hdec hlen hy hwy hA hYc hkn
      go_wp2_with (go_at_call 96; ((with_reducible refine (cc.out).mono ?_); rintro e w3 (⟨v, r3, C, hr, rfl, hy, hI, hK, hCl, hG, Y', hB, hP⟩ | ⟨hn, ⟨ss, rfl⟩, hK⟩); (all_goals first | (have R3 := qh hr; have Y3 := qh hy; have I3 := qh hI; have K3 := qh (K2.out.trans hK); have A3 := qh ((HA.out.mono (fun v C => G1.out wr w3 S Y v C HBX.out hK.kb)).snoc hCl hG); have B3 := qh hB; have Z3 := qh (Im.Patch.snoc hP HYC.out hCl hlt (by rw [HA.out.len.2, HLEN.out])); clear hr hy hI hK hCl hG hB hP) | (have N3 := qh hn; have F3 := qh (K2.out.trans hK); clear hn hK))))
      · go_roundw
        case rel => exact ⟨k + 1, l ++ [v], Cs ++ [C], r3, by omega, by go_num, by rw [List.length_append, HLEN.out]; rfl, Y3.out, by rw [HNX.out, Im.decFrom_some R3.out], I3.out, K3.out, A3.out, Y', B3.out, Z3.out⟩
        case measure => simp [intOf]; omega
      · refine ⟨rfl, .inr ⟨?_, ⟨_, rfl⟩, KU.out.local F3.out hSz.out, F3.out.kb _ _ _ PU.out hSB.out.symm h1 h2⟩⟩
        rw [HDE.out, HNX.out, Im.decFrom_none N3.out]
    · have hk8 : ¬ (k : Int) < n := by omega
      obtain rfl : k = n := by omega
      rw [Nat.sub_self, Im.decFrom_zero] at hdec
      have HI := qh hI
      have HK := qh hK
      have HDX := qh hdec
      have HL := qh hlen
      have HYY := qh hy
      have PW := qh (hK.kb _ _ _ PU.out hSB.out.symm h1 h2)
      have pc : wr.cell? ⟨P, o, none⟩ = some (.slice none 0 0) := (PW.out.cell o).trans HO.out
      have pf : wr.frozen? ⟨P, o, none⟩ = false := PW.out.free o
      have eY : Y = Cs.flatten.toArray := by
        apply Array.ext_getElem?
        intro j
        have hl2 := hA.len.2
        rw [hYc j]
        by_cases hj : j < k * 4
        · rw [if_pos hj, List.getElem?_toArray]
        · rw [if_neg hj, if_neg hj, List.getElem?_toArray, List.getElem?_eq_none (by rw [hl2, hlen]; omega)]
      have HA := qh hA
      rw [eY] at hB
      have HBX := qh hB
      clear hI hK hB hdec hlen hy hA hYc eY
      go_wp2
      go_end0
      refine .inl ⟨l, bs', S, Cs, by rw [HDE.out, HDX.out], rfl, HYY.out, HI.out.off (p := ⟨P, o, none⟩) PW.out h3 h1 HB.out _, ?_, hSz.out, ?_, HBX.out.far hSB.out _, HA.out.mono fun v C => G2.out wr _ cs v C PW.out ((Kb.refl wr).put o _)⟩
      · exact (KU.out.local HK.out hSz.out).put HB.out o _
      · rw [HL.out]; exact PW.out.put o _
end Go.Proofs.Ytgmlbimgcifenaa
namespace Go.Proofs.Ytgmlbimgcifenaa
open Go.RowKit Go.Shelf
theorem layevent_w (kind slot gen peer : Int) (P o : Nat) (t : TypeId) (cs : Array Value) (bs : List Int) (b Bb Bp : Nat) (w : World) (hok : En.evOk ⟨kind, slot, gen, peer⟩) (hbB : b ≤ Bb) (h : Wr b Bb Bp bs w) (hl : bs.length + 5 ≤ 65536) (hP : Box w P t cs)
    (s0 : cs[o]? = some (.int .i64 kind)) (s1 : cs[o + 1]? = some (.int .i64 slot)) (s2 : cs[o + 2]? = some (.int .i64 gen)) (s3 : cs[o + 3]? = some (.int .i64 peer)) (h1 : t ≠ 27) (h2 : t ≠ 5) (h3 : t ≠ 68) :
    Calls Try.prog 96 #[.func (.func 54) #[] #[.pointer (some ⟨Bp, 0, none⟩)], .pointer (some ⟨P, o, none⟩)] w fun e w' => e = .returned (.tuple #[]) ∧ Wr b Bb Bp (bs ++ En.evBytes ⟨kind, slot, gen, peer⟩) w' ∧ Wrote b Bb w w' := by
  obtain ⟨v1, v2, v3, v4⟩ := hok
  dsimp only at v1 v2 v3 v4
  have HSN := qh (show bs ++ En.evBytes ⟨kind, slot, gen, peer⟩ = bs ++ Im.bytesOf 1 kind ++ Im.bytesOf 1 slot ++ Im.bytesOf 2 gen ++ Im.bytesOf 1 peer by simp [En.evBytes])
  have hw0 : IntKind.u64.wrap kind = kind := by rw [IntKind.wrap_u64]; omega
  have hw1 : IntKind.u64.wrap slot = slot := by rw [IntKind.wrap_u64]; omega
  have hw2 : IntKind.u64.wrap gen = gen := by rw [IntKind.wrap_u64]; omega
  have hw3 : IntKind.u64.wrap peer = peer := by rw [IntKind.wrap_u64]; omega
  have P2 := qh hP
  have IV2 := qh h.isvar
  have ltP := hP.lt
  have c0 := qh (layint_w 1 1 rfl kind P o t _ bs b Bb Bp w (by decide) (by omega) hbB h (by omega) hP s0 h1 h2 h3)
  rw [hw0] at c0
  have c1 := fun X (hX : Wr b Bb Bp (bs ++ Im.bytesOf 1 kind) X) hB => qh (layint_w 1 1 rfl slot P (o + 1) t _ _ b Bb Bp X (by decide) (by omega) hbB hX (by simp only [List.length_append, Im.bytesOf_len]; omega) hB s1 h1 h2 h3)
  rw [hw1] at c1
  have c2 := fun X (hX : Wr b Bb Bp (bs ++ Im.bytesOf 1 kind ++ Im.bytesOf 1 slot) X) hB => qh (layint_w 2 2 rfl gen P (o + 2) t _ _ b Bb Bp X (by decide) (by omega) hbB hX (by simp only [List.length_append, Im.bytesOf_len]; omega) hB s2 h1 h2 h3)
  rw [hw2] at c2
  have c3 := fun X (hX : Wr b Bb Bp (bs ++ Im.bytesOf 1 kind ++ Im.bytesOf 1 slot ++ Im.bytesOf 2 gen) X) hB => qh (layint_w 1 1 rfl peer P (o + 3) t _ _ b Bb Bp X (by decide) (by omega) hbB hX (by simp only [List.length_append, Im.bytesOf_len]; omega) hB s3 h1 h2 h3)
  rw [hw3] at c3
  clear h hP s0 s1 s2 s3 hw0 hw1 hw2 hw3
  go_enter Try.func96, Try.ntmps96
  go_wp2_with (go_at_call 51; first | ((with_reducible refine (c0.out).mono ?_); rintro e w3 ⟨rfl, hI, hK⟩; have P3 := qh (P2.out.wrote' hK IV2.out h1 h2); have IV3 := qh hI.isvar; have I3 := qh hI; have K3 := qh hK; clear hI hK c0) | ((with_reducible refine ((c1 _ I3.out P3.out).out).mono ?_); rintro e w4 ⟨rfl, hI, hK⟩; have P4 := qh (P3.out.wrote' hK IV3.out h1 h2); have IV4 := qh hI.isvar; have I4 := qh hI; have K4 := qh (K3.out.trans hK); clear hI hK) | ((with_reducible refine ((c2 _ I4.out P4.out).out).mono ?_); rintro e w5 ⟨rfl, hI, hK⟩; have P5 := qh (P4.out.wrote' hK IV4.out h1 h2); have IV5 := qh hI.isvar; have I5 := qh hI; have K5 := qh (K4.out.trans hK); clear hI hK) | ((with_reducible refine ((c3 _ I5.out P5.out).out).mono ?_); rintro e w6 ⟨rfl, hI, hK⟩; have I6 := qh hI; have K6 := qh (K5.out.trans hK); clear hI hK))
  go_end0
  exact ⟨rfl, by rw [HSN.out]; exact I6.out, K6.out⟩
theorem eachevent_w (l : List En.Ev) (hok : ∀ s ∈ l, En.evOk s) (b Bb Bp : Nat) (w : World) (hbB : b ≤ Bb) (hbw : b ≤ w.heap.size) : EachW 96 59 4 (En.evCells l) (l.map En.evBytes) b Bb Bp w := by
  intro k S X Y bs hk hB hbS hI hl hY hc
  rw [List.length_map] at hk
  have e : (l.map En.evBytes).getD k [] = En.evBytes l[k] := by simp [hk]
  rw [e] at hl ⊢
  have ok := hok l[k] (List.getElem_mem hk)
  have sc : ∀ j, j < 4 → Y[k * 4 + j]? = (l[k]).cells[j]? := fun j hj => by rw [hc j hj]; exact En.evCells_at l k j hk hj
  generalize hs : l[k] = s at *
  obtain ⟨kind, slot, gen, peer⟩ := s
  have s0 := sc 0 (by omega)
  have s1 := sc 1 (by omega)
  have s2 := sc 2 (by omega)
  have s3 := sc 3 (by omega)
  simp only [En.Ev.cells, List.getElem?_cons_zero, List.getElem?_cons_succ, Nat.add_zero] at s0 s1 s2 s3
  rw [En.evBytes_len] at hl
  refine (layevent_w kind slot gen peer S (k * 4) 59 Y bs b Bb Bp X ok hbB hI hl hY s0 s1 s2 s3 (by decide) (by decide) (by decide)).mono ?_
  rintro e w' ⟨rfl, h1, h2⟩
  have hv := hI.isvar
  exact ⟨rfl, h1, h2.to (Nat.le_trans hbw hB.size), (Kb.refl X).wrote h2 hv, (VarK.refl X).wrote h2, Y, hY.wrote' h2 hv (by decide) (by decide), rfl, fun _ _ => rfl⟩
theorem layevents_w (l : List En.Ev) (n : Nat) (A : Option Addr) (c B : Nat) (t : TypeId) (cs : Array Value) (bs : List Int) (b Bb Bp : Nat) (w : World) (hn : n = l.length) (hn16 : n ≤ 16) (hok : ∀ s ∈ l, En.evOk s) (hbB : b ≤ Bb) (hbP : b ≤ B) (hbw : b ≤ w.heap.size) (h : Wr b Bb Bp bs w) (hl : bs.length + 1 + 5 * 16 ≤ 65536) (hP : Box w B t cs)
    (ho : cs[1]? = some (.slice A n c)) (hL : Lies w b 4 A n (En.evCells l)) (h1 : t ≠ 27) (h2 : t ≠ 5) (h3 : t ≠ 68) (h4 : t ≠ 59) :
    Calls Try.prog 95 #[.func (.func 54) #[] #[.pointer (some ⟨Bp, 0, none⟩)], .int .i64 1, .pointer (some ⟨B, 1, none⟩), .func (.func 96) #[] #[]] w fun e w' => e = .returned (.tuple #[]) ∧ Wr b Bb Bp (bs ++ (Im.bytesOf 1 n ++ En.evsBytes l)) w' ∧ Below b w w' ∧ Kb B w w' ∧ ∃ S, Box w' B t (cs.setIfInBounds 1 (.slice (some ⟨S, 0, none⟩) n n)) := by
  have he := En.evsBytes_len l
  refine (listzev_w (En.evCells l) (l.map En.evBytes) n A c 1 1 rfl B 1 t cs bs b Bb Bp w (by rw [List.length_map, hn]) (by omega) (by decide) hbB hbP hbw h (by show bs.length + 1 + (En.evsBytes l).length ≤ 65536; omega) hP ho hL (En.evCells_one l) h1 h2 h3 (eachevent_w l hok b Bb Bp w hbB hbw)).mono ?_
  rintro e w' ⟨rfl, h1, h2, h3, _, h4⟩
  exact ⟨rfl, h1, h2, h3, h4⟩
theorem layentry_w (e : En.E) (n : Nat) (A : Option Addr) (c B : Nat) (bs : List Int) (b Bb Bp : Nat) (w : World) (hn : n = e.evs.length) (hok : En.Ok e) (hty : ∀ i, i < 8 → Gm.tyIn (e.inp i)) (hbB : b ≤ Bb) (hbP : b ≤ B) (hbw : b ≤ w.heap.size) (h : Wr b Bb Bp bs w) (hl : bs.length ≤ 60000) (hP : Box w B 53 (En.cells e (.slice A n c))) (hL : Lies w b 4 A n (En.evCells e.evs)) :
    Calls Try.prog 93 #[.func (.func 54) #[] #[.pointer (some ⟨Bp, 0, none⟩)], .pointer (some ⟨B, 0, none⟩)] w fun r w' => r = .returned (.tuple #[]) ∧ Wr b Bb Bp (bs ++ En.put e) w' ∧ Below b w w' ∧ Kb B w w' := by
  have hf := hok.frame
  have hw0 : IntKind.u64.wrap e.frame = e.frame := by rw [IntKind.wrap_u64]; omega
  have hc16 := hok.count
  have hevl := En.evsBytes_len e.evs
  have c1 := qh (layint_w 4 4 rfl e.frame B 0 53 _ bs b Bb Bp w (by decide) (by omega) hbB h (by omega) hP (En.cells_0 _ _) (by decide) (by decide) (by decide))
  rw [hw0] at c1
  have c2 := fun X (hX : Wr b Bb Bp (bs ++ Im.bytesOf 4 e.frame) X) hB hS hLX => qh (layevents_w e.evs n A c B 53 (En.cells e (.slice A n c)) _ b Bb Bp X hn (by omega) (En.row_mem _ _ hok.row) hbB hbP hS hX (by rw [List.length_append, Im.bytesOf_len]; omega) hB (En.cells_1 _ _) hLX (by decide) (by decide) (by decide) (by decide))
  have c3 := fun S X (hX : Wr b Bb Bp (bs ++ Im.bytesOf 4 e.frame ++ (Im.bytesOf 1 n ++ En.evsBytes e.evs)) X) hB => qh (layinputs_w e (.slice (some ⟨S, 0, none⟩) n n) B _ b Bb Bp X hty hbB hX (by rw [List.length_append, List.length_append, List.length_append, Im.bytesOf_len, Im.bytesOf_len, hevl]; omega) hB)
  have HE := qh (show bs ++ Im.bytesOf 4 e.frame ++ (Im.bytesOf 1 n ++ En.evsBytes e.evs) ++ (Im.bytesOf 1 (En.mask e.inp 8) ++ En.insBytes e.inp 8) = bs ++ En.put e by rw [hn]; unfold En.put; simp only [List.append_assoc])
  have IV0 := qh h.isvar
  have P0 := qh hP
  have L0 := qh hL
  have ltP := hP.lt
  clear h hP hL hf hn hw0 hevl hc16
  go_enter Try.func93, Try.ntmps93
  go_wp2_with (first | (go_at_call 51; ((with_reducible refine (c1.out).mono ?_); rintro r w1 ⟨rfl, hI, hK⟩; have P1 := qh (P0.out.wrote' hK IV0.out (by decide) (by decide)); have IV1 := qh hI.isvar; have I1 := qh hI; have K1 := qh (hK.to hbw); have Q1 := qh ((Kb.refl (B := B) w).wrote hK IV0.out); clear hI hK)) | (go_at_call 95; ((with_reducible refine ((c2 _ I1.out P1.out (Nat.le_trans hbw K1.out.size) (L0.out.below K1.out)).out).mono ?_); rintro r w2 ⟨rfl, hI, hb, hk, S, hB⟩; rw [En.cells_evs] at hB; have P2 := qh hB; have IV2 := qh hI.isvar; have I2 := qh hI; have K2 := qh (K1.out.trans hb); have Q2 := qh (Q1.out.trans hk); clear hI hb hk hB)) | (go_at_call 97; ((with_reducible refine ((c3 _ _ I2.out P2.out).out).mono ?_); rintro r w3 ⟨rfl, hI, hK⟩; have I3 := qh hI; have K3 := qh (K2.out.trans (hK.to (Nat.le_trans hbw K2.out.size))); have Q3 := qh (Q2.out.wrote hK IV2.out); clear hI hK)))
  go_end0
  exact ⟨rfl, by rw [← HE.out]; exact I3.out, K3.out, Q3.out⟩
end Go.Proofs.Ytgmlbimgcifenaa
namespace En
open Go
end En
namespace En
open Go Go.Proofs.Ytgmlbimgcifenaa
theorem decEvs_from : ∀ (n : Nat) (a : List Ev) (bs : List Int), decEvs n a bs = Im.decFrom decEv a n bs
  | 0, a, bs => by rw [Im.decFrom_zero]; rfl
  | n + 1, a, bs => by
    show ((decEv bs).bind fun q => decEvs n (a ++ [q.1]) q.2) = _
    cases h : decEv bs with
    | none => rw [Im.decFrom_none h]; rfl
    | some q =>
      obtain ⟨v, rest⟩ := q
      rw [Im.decFrom_some h, Option.bind_some, decEvs_from n]
theorem decEvents_list (bs : List Int) : decEvents bs = Im.decL 1 decEv bs := by
  unfold decEvents Im.decL
  congr 1
  funext n
  rw [decEvs_from, Im.decFrom_nil]
theorem allgood_evs : ∀ {l : List Ev} {Cs : List (List Value)}, AllGood 4 (fun (v : Ev) C => C = v.cells) l Cs → Cs.flatten = evCells l
  | [], [], _ => rfl
  | v :: l, C :: Cs, h => by
    rw [List.flatten_cons, allgood_evs h.2.2, h.2.1]
    unfold evCells
    rw [List.flatMap_cons]
  | [], _ :: _, h => h.elim
  | _ :: _, [], h => h.elim
end En
namespace Go.Proofs.Ytgmlbimgcifenaa
open Go.RowKit Go.Shelf
def GotEvs (b Bb Bp B : Nat) (t : TypeId) (cs : Array Value) (bs : List Int) (w : World) (e : Ending) (w' : World) : Prop :=
      (∃ l rest S, En.decEvents bs = some (l, rest) ∧ e = .returned (.tuple #[]) ∧ Rd b Bb Bp rest w' ∧ Rk b Bb B w w' ∧ Box w' B t (cs.setIfInBounds 1 (.slice (some ⟨S, 0, none⟩) l.length l.length)) ∧ Box w' S 59 (En.evCells l).toArray) ∨
      (En.decEvents bs = none ∧ Pan e ∧ Rk b Bb B w w' ∧ ∃ cs', Box w' B t cs' ∧ cs'.size = cs.size)
theorem patch4 (cs : Array Value) (o : Nat) (x0 x1 x2 x3 y0 y1 y2 y3 : Value) (s0 : cs[o]? = some x0) (s1 : cs[o + 1]? = some x1) (s2 : cs[o + 2]? = some x2) (s3 : cs[o + 3]? = some x3) : Im.Patch cs o [y0, y1, y2, y3] ((((cs.setIfInBounds o y0).setIfInBounds (o + 1) y1).setIfInBounds (o + 2) y2).setIfInBounds (o + 3) y3) := by
  have a := Im.Patch.one y0 s0
  have b := Im.Patch.one (o := o + 1) y1 (show (cs.setIfInBounds o y0)[o + 1]? = some x1 by rw [Array.getElem?_setIfInBounds_ne (by omega), s1])
  have c := Im.Patch.one (o := o + 2) y2 (show ((cs.setIfInBounds o y0).setIfInBounds (o + 1) y1)[o + 2]? = some x2 by rw [Array.getElem?_setIfInBounds_ne (by omega), Array.getElem?_setIfInBounds_ne (by omega), s2])
  have d := Im.Patch.one (o := o + 3) y3 (show (((cs.setIfInBounds o y0).setIfInBounds (o + 1) y1).setIfInBounds (o + 2) y2)[o + 3]? = some x3 by rw [Array.getElem?_setIfInBounds_ne (by omega), Array.getElem?_setIfInBounds_ne (by omega), Array.getElem?_setIfInBounds_ne (by omega), s3])
  exact ((a.trans b rfl).trans c rfl).trans d rfl
theorem layevent_r (x0 x1 x2 x3 : Int) (P o : Nat) (t : TypeId) (cs : Array Value) (bs : List Int) (b Bb Bp : Nat) (w : World) (hBy : Im.IsBytes bs) (hbB : b ≤ Bb) (hbP : b ≤ P) (hbw : b ≤ w.heap.size) (h : Rd b Bb Bp bs w) (hP : Box w P t cs)
    (s0 : cs[o]? = some (.int .i64 x0)) (s1 : cs[o + 1]? = some (.int .i64 x1)) (s2 : cs[o + 2]? = some (.int .i64 x2)) (s3 : cs[o + 3]? = some (.int .i64 x3)) (h1 : t ≠ 27) (h2 : t ≠ 5) (h3 : t ≠ 68) :
    Calls Try.prog 96 #[.func (.func 60) #[] #[.pointer (some ⟨Bp, 0, none⟩)], .pointer (some ⟨P, o, none⟩)] w (Got b Bb Bp P t cs.size (En.decEv bs) (fun v => (((cs.setIfInBounds o (.int .i64 v.kind)).setIfInBounds (o + 1) (.int .i64 v.slot)).setIfInBounds (o + 2) (.int .i64 v.gen)).setIfInBounds (o + 3) (.int .i64 v.peer)) w) := by
  have q0 := qh (part_int 1 1 rfl x0 P o t cs bs b Bb Bp w (by decide) hBy hbB hbP hbw h hP s0 h1 h2 h3)
  have q1 := fun v bs'' X hy' hX1 hX2 hX3 => qh (part_int 1 1 rfl x1 P (o + 1) t (cs.setIfInBounds o v) bs'' b Bb Bp X (by decide) hy' hbB hbP hX1 hX2 hX3 (by rw [Array.getElem?_setIfInBounds_ne (by omega), s1]) h1 h2 h3)
  have q2 := fun v v' bs'' X hy' hX1 hX2 hX3 => qh (part_int 2 2 rfl x2 P (o + 2) t ((cs.setIfInBounds o v).setIfInBounds (o + 1) v') bs'' b Bb Bp X (by decide) hy' hbB hbP hX1 hX2 hX3 (by rw [Array.getElem?_setIfInBounds_ne (by omega), Array.getElem?_setIfInBounds_ne (by omega), s2]) h1 h2 h3)
  have q3 := fun v v' v'' bs'' X hy' hX1 hX2 hX3 => qh (part_int 1 1 rfl x3 P (o + 3) t (((cs.setIfInBounds o v).setIfInBounds (o + 1) v').setIfInBounds (o + 2) v'') bs'' b Bb Bp X (by decide) hy' hbB hbP hX1 hX2 hX3 (by rw [Array.getElem?_setIfInBounds_ne (by omega), Array.getElem?_setIfInBounds_ne (by omega), Array.getElem?_setIfInBounds_ne (by omega), s3]) h1 h2 h3)
  have HDV := qh (show En.decEv bs = (Im.rdn 1 bs).bind fun k => (Im.rdn 1 k.2).bind fun s => (Im.rdn 2 s.2).bind fun g => (Im.rdn 1 g.2).bind fun p => some (⟨k.1, s.1, g.1, p.1⟩, p.2) from rfl)
  have ltP := hP.lt
  have HW := qh hbw
  have YY := qh hBy
  clear h hP hbw hBy s0 s1 s2 s3
  go_enter Try.func96, Try.ntmps96
  go_wp2_with (go_at_call 51; first | ((with_reducible refine (q0.out).mono ?_); rintro r w3 (⟨y0, r3, hr, rfl, hI, hK, hB⟩ | ⟨hn, ⟨ss, rfl⟩, hK, cs', hB, hs⟩); (all_goals first | (have R3 := qh hr; have Y3 := qh (Im.rdn_inv YY.out hr).2.2.2; have P3 := qh hB; have I3 := qh hI; have K3 := qh hK; clear hr hI hK hB q0) | (have N3 := qh hn; have F3 := qh hK; have B3 := qh hB; have S3 := qh hs; clear hn hK hB hs q0))) | ((with_reducible refine ((q1 _ _ _ Y3.out (Nat.le_trans HW.out K3.out.below.size) I3.out P3.out).out).mono ?_); rintro r w4 (⟨y1, r4, hr, rfl, hI, hK, hB⟩ | ⟨hn, ⟨ss, rfl⟩, hK, cs', hB, hs⟩); (all_goals first | (have R4 := qh hr; have Y4 := qh (Im.rdn_inv Y3.out hr).2.2.2; have P4 := qh hB; have I4 := qh hI; have K4 := qh (K3.out.trans hK); clear hr hI hK hB q1) | (have N4 := qh hn; have F4 := qh (K3.out.trans hK); have B4 := qh hB; have S4 := qh hs; clear hn hK hB hs q1))) | ((with_reducible refine ((q2 _ _ _ _ Y4.out (Nat.le_trans HW.out K4.out.below.size) I4.out P4.out).out).mono ?_); rintro r w5 (⟨y2, r5, hr, rfl, hI, hK, hB⟩ | ⟨hn, ⟨ss, rfl⟩, hK, cs', hB, hs⟩); (all_goals first | (have R5 := qh hr; have Y5 := qh (Im.rdn_inv Y4.out hr).2.2.2; have P5 := qh hB; have I5 := qh hI; have K5 := qh (K4.out.trans hK); clear hr hI hK hB q2) | (have N5 := qh hn; have F5 := qh (K4.out.trans hK); have B5 := qh hB; have S5 := qh hs; clear hn hK hB hs q2))) | ((with_reducible refine ((q3 _ _ _ _ _ Y5.out (Nat.le_trans HW.out K5.out.below.size) I5.out P5.out).out).mono ?_); rintro r w6 (⟨y3, r6, hr, rfl, hI, hK, hB⟩ | ⟨hn, ⟨ss, rfl⟩, hK, cs', hB, hs⟩); (all_goals first | (have R6 := qh hr; have P6 := qh hB; have I6 := qh hI; have K6 := qh (K5.out.trans hK); clear hr hI hK hB q3) | (have N6 := qh hn; have F6 := qh (K5.out.trans hK); have B6 := qh hB; have S6 := qh hs; clear hn hK hB hs q3))))
  · go_end0
    exact .inl ⟨⟨y0, y1, y2, y3⟩, r6, by rw [HDV.out, R3.out, Option.bind_some, R4.out, Option.bind_some, R5.out, Option.bind_some, R6.out, Option.bind_some], rfl, I6.out, K6.out, P6.out⟩
  · exact ⟨rfl, .inr ⟨by rw [HDV.out, R3.out, Option.bind_some, R4.out, Option.bind_some, R5.out, Option.bind_some, N6.out, Option.bind_none], ⟨_, rfl⟩, F6.out, _, B6.out, by rw [S6.out]; simp⟩⟩
  · exact ⟨rfl, .inr ⟨by rw [HDV.out, R3.out, Option.bind_some, R4.out, Option.bind_some, N5.out, Option.bind_none], ⟨_, rfl⟩, F5.out, _, B5.out, by rw [S5.out]; simp⟩⟩
  · exact ⟨rfl, .inr ⟨by rw [HDV.out, R3.out, Option.bind_some, N4.out, Option.bind_none], ⟨_, rfl⟩, F4.out, _, B4.out, by rw [S4.out]; simp⟩⟩
  · exact ⟨rfl, .inr ⟨by rw [HDV.out, N3.out, Option.bind_none], ⟨_, rfl⟩, F3.out, _, B3.out, S3.out⟩⟩
theorem eachevent_r (b Bb Bp : Nat) (w : World) (hbB : b ≤ Bb) : EachR 96 59 4 (Value.agg #[.int .i64 0, .int .i64 0, .int .i64 0, .int .i64 0]).cells.toList En.decEv (fun _ v C => C = v.cells) b Bb Bp w := by
  intro k S X Y bs hy hB hbS hbX hI hY hc
  have s0 : Y[k * 4]? = some (.int .i64 0) := hc 0 (by omega)
  have s1 : Y[k * 4 + 1]? = some (.int .i64 0) := hc 1 (by omega)
  have s2 : Y[k * 4 + 2]? = some (.int .i64 0) := hc 2 (by omega)
  have s3 : Y[k * 4 + 3]? = some (.int .i64 0) := hc 3 (by omega)
  refine (layevent_r 0 0 0 0 S (k * 4) 59 Y bs b Bb Bp X hy hbB hbS hbX hI hY s0 s1 s2 s3 (by decide) (by decide) (by decide)).mono ?_
  rintro e w' (⟨v, rest, hr, rfl, hI', hK, hB'⟩ | ⟨hn, hp, hK, _⟩)
  · exact .inl ⟨v, rest, v.cells, hr, rfl, (En.decEv_inv hy hr).2.1, hI', hK, rfl, rfl, _, hB', patch4 Y _ _ _ _ _ _ _ _ _ s0 s1 s2 s3⟩
  · exact .inr ⟨hn, hp, hK⟩
theorem layevents_r (B : Nat) (t : TypeId) (cs : Array Value) (bs : List Int) (b Bb Bp : Nat) (w : World) (hBy : Im.IsBytes bs) (hbB : b ≤ Bb) (hbP : b ≤ B) (hbw : b ≤ w.heap.size) (h : Rd b Bb Bp bs w) (hP : Box w B t cs)
    (ho : cs[1]? = some (.slice none 0 0)) (h1 : t ≠ 27) (h2 : t ≠ 5) (h3 : t ≠ 68) (h4 : t ≠ 59) :
    Calls Try.prog 95 #[.func (.func 60) #[] #[.pointer (some ⟨Bp, 0, none⟩)], .int .i64 1, .pointer (some ⟨B, 1, none⟩), .func (.func 96) #[] #[]] w (GotEvs b Bb Bp B t cs bs w) := by
  refine (listzev_r En.decEv (fun _ v C => C = v.cells) 1 1 rfl B 1 t cs bs b Bb Bp w hBy (by decide) hbB hbP hbw h hP ho h1 h2 h3 (fun _ _ _ _ _ _ _ _ h => h) (fun _ _ _ _ _ _ _ h => h) (eachevent_r b Bb Bp w hbB)).mono ?_
  rintro e w' (⟨l, rest, S, Cs, hD, rfl, hy, hI, hK, hS, hB, hE, hA⟩ | ⟨hD, hp, hK, hB⟩)
  · exact .inl ⟨l, rest, S, by rw [En.decEvents_list]; exact hD, rfl, hI, hK, hB, by rw [← En.allgood_evs hA]; exact hE⟩
  · exact .inr ⟨by rw [En.decEvents_list]; exact hD, hp, hK, _, hB, rfl⟩
end Go.Proofs.Ytgmlbimgcifenaa
namespace Go.Proofs.Ytgmlbimgcifenaa
open Go.RowKit Go.Shelf
theorem encatch_idle_put (p q : Addr) (w : World) :
    CallsD Try.prog 92 #[.pointer (some p), .pointer (some q)] .returning w fun e u' w' => e = .returned (.tuple #[]) ∧ u' = .returning ∧ w' = w := by
  refine callsD_of_wpS Try.func92 rfl fun c₀ cs hu => ?_
  apply wpS_seq
  apply wpS_region
  simp [wpOpsS, go_sem, recoverD, hu, Try.ntmps92, Exit.thenS]
  refine wpS_cond (t := false) (by simp [Act.eval, Array.replicate]) ?_
  simp only [Bool.false_eq_true, if_false]
  refine wpS_of_wp (wp_skip ?_)
  cases c₀
  simp_all [bodyPostS, results, Try.results92]
theorem enput_yes (e : En.E) (A : Option Addr) (n c : Nat) (w : World) (hok : En.Ok e) (hty : ∀ i, i < 8 → Gm.tyIn (e.inp i)) (hn : n = e.evs.length) (hr : Lies w w.heap.size 4 A n (En.evCells e.evs)) :
    Calls Try.prog 88 #[.agg (En.cells e (.slice A n c))] w fun r w' => ∃ A' c', r = .returned (.tuple #[.slice A' (En.put e).length c', .int .i64 0]) ∧ (En.put e).length ≤ c' ∧ Lies w' w'.heap.size 1 A' (En.put e).length (Im.u8s (En.put e)) ∧ w'.ownsRow w.heap.size 5 1 (.slice A' (En.put e).length c') (En.put e).length (Im.u8s (En.put e)) ∧ Below w.heap.size w w' := by
  have hmf : ∀ (fn : Fn) (first cap : Array Value) (w : World), (Instr.makeFunc fn first cap).run Try.prog w = .ok (.func fn first cap) w := fun _ _ _ _ => rfl
  have P1 := qh (((Box.made w 53 (En.cells e (.slice A n c))).alloc (.cells #[.slice none 0 0] 27)).alloc (.cells #[.int .i64 0] 3))
  have B1 := qh ((Box.made_at (n := w.heap.size + 1) (w.alloc (.cells (En.cells e (.slice A n c)) 53)) 27 #[.slice none 0 0] (by simp)).alloc (.cells #[.int .i64 0] 3))
  have C1 := qh (Box.made_at (n := w.heap.size + 1 + 1) ((w.alloc (.cells (En.cells e (.slice A n c)) 53)).alloc (.cells #[.slice none 0 0] 27)) 3 #[.int .i64 0] (by simp))
  have K1 := qh ((((Below.refl w.heap.size w).alloc (Nat.le_refl _) (.cells (En.cells e (.slice A n c)) 53)).alloc (by simp) (.cells #[.slice none 0 0] 27)).alloc (by simp <;> omega) (.cells #[.int .i64 0] 3))
  have hr1 := (hr.below K1.out).wider K1.out.size
  have hr0 := hr.below K1.out
  have cm := fun X hX => qh (enmay_any e A n c X hn (by have := hok.count; rw [hn]; unfold maxLen; omega) hX)
  rw [decide_eq_true hok] at cm
  have cl := fun Bp X h1 h2 h3 h4 => qh (layentry_w e n A c w.heap.size [] w.heap.size (w.heap.size + 1) Bp X hn hok hty (Nat.le_succ _) (Nat.le_refl _) h1 h2 (by simp) h3 h4)
  have HR := qh hr1
  have H0 := qh hr0
  clear hr hr1 hr0 hn hok hty
  go_enter_defers Try.func88, Try.ntmps88
  go_wp2_with (first | ((with_reducible refine en_load rfl rfl ?_); apply LoadEn.mk rfl; (focus (with_reducible exact P1.out)); dsimp only) | (go_at_call 57; ((with_reducible refine ((cm _ HR.out).out).mono ?_); rintro r w1 ⟨rfl, hb⟩; have P2 := qh (P1.out.below hb P1.out.lt); have C2 := qh (C1.out.below hb C1.out.lt); have B2 := qh (B1.out.below hb B1.out.lt); have K2 := qh (K1.out.trans (hb.mono K1.out.size)); have H2 := qh (H0.out.below (hb.mono K1.out.size)); clear hb)) | (go_at_call 30; ((with_reducible refine (need_yes _ _).mono ?_); rintro r w2 ⟨rfl, rfl⟩)) | (go_at_call 32; ((with_reducible refine (writer_any _ _).mono ?_); rintro r w3 ⟨rfl, rfl⟩)) | (go_at_call 93; ((with_reducible refine ((cl _ _ (K2.out.alloc K2.out.size _).size (Wr.nil (Box.made _ _ _) (B2.out.alloc _)) (P2.out.alloc _) (H2.out.below ((one_below _ _).mono K2.out.size))).out).mono ?_); rintro r w3 ⟨rfl, hI, hb, hk⟩; rw [List.nil_append] at hI; have C3 := qh (hk _ _ _ (C2.out.alloc _) (by omega) (by decide) (by decide)); have K3 := qh ((K2.out.alloc K2.out.size _).trans hb); obtain ⟨h1, A', c', hB, ho⟩ := hI; have B3 := qh hB; have O3 := qh ho; have b3 := hB.cell 0; have f3 := hB.free 0; have c3 := (C3.out.far (p := ⟨w.heap.size + 1, 0, none⟩) (show w.heap.size + 1 + 1 ≠ w.heap.size + 1 by omega) (.slice A' (En.put e).length c')).cell 0; have g3 := (C3.out.far (p := ⟨w.heap.size + 1, 0, none⟩) (show w.heap.size + 1 + 1 ≠ w.heap.size + 1 by omega) (.slice A' (En.put e).length c')).free 0; clear h1 hB ho hb hk)))
  have ne : w.heap.size + 1 ≠ w.heap.size + 1 + 1 := by omega
  have B4 := (B3.out.put 0 (.slice A' (En.put e).length c')).far (p := ⟨w.heap.size + 1 + 1, 0, none⟩) ne (.int .i64 0)
  have C4 := (C3.out.far (p := ⟨w.heap.size + 1, 0, none⟩) (fun q => ne q.symm) (.slice A' (En.put e).length c')).put 0 (.int .i64 0)
  have K4 := (K3.out.setCell (p := ⟨w.heap.size + 1, 0, none⟩) (Nat.le_succ _) (.slice A' (En.put e).length c')).setCell (p := ⟨w.heap.size + 1 + 1, 0, none⟩) (by show w.heap.size ≤ w.heap.size + 1 + 1; omega) (.int .i64 0)
  have OW := ownsRow_setCell_other (a := ⟨w.heap.size + 1 + 1, 0, none⟩) (ownsRow_setCell_other (a := ⟨w.heap.size + 1, 0, none⟩) O3.out (B3.out.unowned O3.out (by decide)) (.slice A' (En.put e).length c')) ((C3.out.far (p := ⟨w.heap.size + 1, 0, none⟩) (fun q => ne q.symm) (.slice A' (En.put e).length c')).unowned (ownsRow_setCell_other (a := ⟨w.heap.size + 1, 0, none⟩) O3.out (B3.out.unowned O3.out (by decide)) (.slice A' (En.put e).length c')) (by decide)) (.int .i64 0)
  have O4 := Lies.owned OW
  have b4 := B4.cell 0
  have c4 := C4.cell 0
  simp at b4 c4
  refine leaves_cons (f := 92) (args := #[.pointer (some ⟨w.heap.size + 1, 0, none⟩), .pointer (some ⟨w.heap.size + 1 + 1, 0, none⟩)]) (by simp) (by simp [go_sem]) ?_
  refine (encatch_idle_put _ _ _).mono ?_
  rintro r u' w'' ⟨rfl, rfl, rfl⟩
  simp [Leaves, settle, results, Try.results88, go_sem, b4, c4]
  exact ⟨A', c', by first | rfl | exact ⟨rfl, rfl⟩ | simp, own_cap O3.out, O4.wider (by simp), OW, K4⟩
end Go.Proofs.Ytgmlbimgcifenaa
namespace En
open Go
end En
namespace Go.Proofs.Ytgmlbimgcifenaa
open Go.RowKit Go.Shelf
theorem Lies.boxed {W : World} {S n size : Nat} {t : TypeId} {xs : List Value} (h : Box W S t xs.toArray) (hl : xs.length = n * size) : Lies W W.heap.size size (some ⟨S, 0, none⟩) n xs :=
  ⟨hl, fun _ => ⟨_, rfl, h.lt⟩, fun ad e _ j u hj => by
    injection e with e
    subst e
    have hadd : (⟨S, 0, none⟩ : Addr).add j = ⟨S, j, none⟩ := by unfold Addr.add; split <;> simp_all
    rw [hadd, h.cell j, ← hj]
    simp⟩
def GotEn (b Bb Bp B : Nat) (bs : List Int) (w : World) (r : Ending) (w' : World) : Prop :=
  (∃ e rest S, En.dec bs = some (e, rest) ∧ r = .returned (.tuple #[]) ∧ Rd b Bb Bp rest w' ∧ Rk b Bb B w w' ∧ Box w' B 53 (En.cells e (.slice (some ⟨S, 0, none⟩) e.evs.length e.evs.length)) ∧ Box w' S 59 (En.evCells e.evs).toArray) ∨
  (En.dec bs = none ∧ Pan r ∧ Rk b Bb B w w' ∧ ∃ cs', Box w' B 53 cs' ∧ cs'.size = 26)
theorem layentry_r (B : Nat) (bs : List Int) (b Bb Bp : Nat) (w : World) (hBy : Im.IsBytes bs) (hbB : b ≤ Bb) (hbP : b ≤ B) (hbw : b ≤ w.heap.size) (h : Rd b Bb Bp bs w) (hP : Box w B 53 En.zeroC) :
    Calls Try.prog 93 #[.func (.func 60) #[] #[.pointer (some ⟨Bp, 0, none⟩)], .pointer (some ⟨B, 0, none⟩)] w (GotEn b Bb Bp B bs w) := by
  have c1 := qh (part_int 4 4 rfl 0 B 0 53 En.zeroC bs b Bb Bp w (by decide) hBy hbB hbP hbw h hP rfl (by decide) (by decide) (by decide))
  have c2 := fun f bs' X hy h1 h2 h3 => qh (layevents_r B 53 (En.cells ⟨f, [], En.in0⟩ (.slice none 0 0)) bs' b Bb Bp X hy hbB hbP h1 h2 h3 rfl (by decide) (by decide) (by decide) (by decide))
  have c3 := fun f l S bs' X hy h1 h2 h3 => qh (layinputs_r f l (.slice (some ⟨S, 0, none⟩) l.length l.length) B bs' b Bb Bp X hy hbB hbP h1 h2 h3)
  have ltP := hP.lt
  have HW := qh hbw
  have HY := qh hBy
  have HD := qh (show En.dec bs = (Im.rdn 4 bs).bind fun a => (En.decEvents a.2).bind fun l => (En.decInputs En.in0 l.2).bind fun f => some (⟨a.1, l.1, f.1⟩, f.2) from rfl)
  clear h hP hbw hBy
  go_enter Try.func93, Try.ntmps93
  go_wp2_with (first | (go_at_call 51; ((with_reducible refine (c1.out).mono ?_); rintro r w1 (⟨f, r1, hr, rfl, hI, hK, hB⟩ | ⟨hn, ⟨ss, rfl⟩, hK, cs', hB, hs⟩); (all_goals first | (have R1 := qh hr; have Y1 := qh (Im.rdn_inv HY.out hr).2.2.2; have P1 := qh (show Box w1 B 53 (En.cells ⟨f, [], En.in0⟩ (.slice none 0 0)) from hB); have I1 := qh hI; have K1 := qh hK; clear hr hI hK hB c1) | (have N1 := qh hn; have F1 := qh hK; have G1 := qh hB; have S1 := qh hs; clear hn hK hB hs c1)))) | (go_at_call 95; ((with_reducible refine ((c2 _ _ _ Y1.out (Nat.le_trans HW.out K1.out.below.size) I1.out P1.out).out).mono ?_); rintro r w2 (⟨l, r2, S, hr, rfl, hI, hK, hB, hE⟩ | ⟨hn, ⟨ss, rfl⟩, hK, cs', hB, hs⟩); (all_goals first | (have R2 := qh hr; rw [En.cells_evs] at hB; have P2 := qh (show Box w2 B 53 (En.cells ⟨f, l, En.in0⟩ (.slice (some ⟨S, 0, none⟩) l.length l.length)) from hB); have I2 := qh hI; have E2 := qh hE; have K2 := qh (K1.out.trans hK); clear hr hI hK hB hE c2) | (have N2 := qh hn; have F2 := qh (K1.out.trans hK); have G2 := qh hB; have S2 := qh hs; clear hn hK hB hs c2)))) | (go_at_call 97; ((with_reducible refine ((c3 _ _ _ _ _ (En.events_left Y1.out R2.out) (Nat.le_trans HW.out K2.out.below.size) I2.out P2.out).out).mono ?_); rintro r w3 (⟨g, r3, hr, rfl, hI, hK, hB⟩ | ⟨hn, ⟨ss, rfl⟩, hK, cs', hB, hs⟩); (all_goals first | (have R3 := qh hr; have P3 := qh hB; have I3 := qh hI; have E3 := qh (hK.kb _ _ _ E2.out (Box.apart P2.out E2.out (by decide)).symm (by decide) (by decide)); have K3 := qh (K2.out.trans hK); clear hr hI hK hB c3) | (have N3 := qh hn; have F3 := qh (K2.out.trans hK); have G3 := qh hB; have S3 := qh hs; clear hn hK hB hs c3)))))
  · go_end0
    refine .inl ⟨⟨f, l, g⟩, r3, S, ?_, rfl, I3.out, K3.out, P3.out, E3.out⟩
    rw [HD.out, R1.out, Option.bind_some, R2.out, Option.bind_some, R3.out, Option.bind_some]
  · refine ⟨rfl, .inr ⟨?_, ⟨_, rfl⟩, F3.out, _, G3.out, S3.out⟩⟩
    rw [HD.out, R1.out, Option.bind_some, R2.out, Option.bind_some, N3.out, Option.bind_none]
  · refine ⟨rfl, .inr ⟨?_, ⟨_, rfl⟩, F2.out, _, G2.out, S2.out⟩⟩
    rw [HD.out, R1.out, Option.bind_some, N2.out, Option.bind_none]
  · refine ⟨rfl, .inr ⟨?_, ⟨_, rfl⟩, F1.out, _, G1.out, S1.out⟩⟩
    rw [HD.out, N1.out, Option.bind_none]
theorem encatch_get (B Bc : Nat) (u : TypeId) (pv : Value) (older : List PanicEntry) (w : World) (Z : Array Value) (hZ : Z.size = 26) (hb : Box w B 53 Z) (y : Int) (hc : Box w Bc 3 #[.int .i64 y]) :
    CallsD Try.prog 94 #[.pointer (some ⟨B, 0, none⟩), .pointer (some ⟨Bc, 0, none⟩)] (.panicking ({ v := .iface u pv, recovered := false } :: older)) w fun e u' w' =>
      e = .returned (.tuple #[]) ∧ u' = .panicking ({ v := .iface u pv, recovered := true } :: older) ∧ w' = (w.setRow B En.zeroC).setCell ⟨Bc, 0, none⟩ (.int .i64 2) := by
  have ne : B ≠ Bc := Box.apart hb hc (by decide)
  have HB := qh hb
  have HC := qh (hc.row_far (fun e => ne e.symm) En.zeroC)
  have c2 := HC.out.cell 0
  have f2 := HC.out.free 0
  have HZ := qh hZ
  clear hb hc hZ
  refine callsD_of_wpS Try.func94 rfl fun c₀ cs hu => ?_
  apply wpS_seq
  apply wpS_region
  simp [wpOpsS, go_sem, recoverD, hu, Try.ntmps94, Exit.thenS]
  refine wpS_cond (t := true) (by simp [Act.eval, Array.replicate]) ?_
  simp only [if_true]
  refine wpS_of_wp ?_
  go_wp2_with (first | (refine wpList_build_is rfl (t := 53) (l := []) (vs := []) rfl rfl en_built ?_) | ((with_reducible refine blk_gate (t := 53) rfl rfl en_info ?_); apply StoreBlk.mk rfl rfl HB.out en_zero_one En.zeroC_size HZ.out))
  simp [bodyPostS, results, Try.results94]
theorem encatch_idle_get (p q : Addr) (w : World) :
    CallsD Try.prog 94 #[.pointer (some p), .pointer (some q)] .returning w fun e u' w' => e = .returned (.tuple #[]) ∧ u' = .returning ∧ w' = w := by
  refine callsD_of_wpS Try.func94 rfl fun c₀ cs hu => ?_
  apply wpS_seq
  apply wpS_region
  simp [wpOpsS, go_sem, recoverD, hu, Try.ntmps94, Exit.thenS]
  refine wpS_cond (t := false) (by simp [Act.eval, Array.replicate]) ?_
  simp only [Bool.false_eq_true, if_false]
  refine wpS_of_wp (wp_skip ?_)
  cases c₀
  simp_all [bodyPostS, results, Try.results94]
def SaysEn (bs : List Int) (w : World) (r : Ending) (w' : World) : Prop :=
  (∃ e S, En.get bs = some e ∧ r = .returned (.tuple #[.agg (En.cells e (.slice (some ⟨S, 0, none⟩) e.evs.length e.evs.length)), .int .i64 0]) ∧ Box w' S 59 (En.evCells e.evs).toArray ∧ Below w.heap.size w w') ∨
  (En.get bs = none ∧ r = .returned (.tuple #[.agg En.zeroC, .int .i64 2]) ∧ Below w.heap.size w w')
theorem enget_any (bs : List Int) (A : Option Addr) (n c : Nat) (w : World) (hn : n = bs.length) (hc : n ≤ c) (hBy : Im.IsBytes bs) (hL : Lies w w.heap.size 1 A n (Im.u8s bs)) :
    Calls Try.prog 89 #[.slice A n c] w (SaysEn bs w) := by
  have hmf : ∀ (fn : Fn) (first cap : Array Value) (w : World), (Instr.makeFunc fn first cap).run Try.prog w = .ok (.func fn first cap) w := fun _ _ _ _ => rfl
  have V1 := qh (((Box.made w 27 #[.slice A n c]).alloc (.cells En.zeroC 53)).alloc (.cells #[.int .i64 0] 3))
  have B1 := qh ((Box.made_at (n := w.heap.size + 1) (w.alloc (.cells #[.slice A n c] 27)) 53 En.zeroC (by simp)).alloc (.cells #[.int .i64 0] 3))
  have C1 := qh (Box.made_at (n := w.heap.size + 1 + 1) ((w.alloc (.cells #[.slice A n c] 27)).alloc (.cells En.zeroC 53)) 3 #[.int .i64 0] (by simp))
  have K1 := qh ((((Below.refl w.heap.size w).alloc (Nat.le_refl _) (.cells #[.slice A n c] 27)).alloc (by simp) (.cells En.zeroC 53)).alloc (by simp <;> omega) (.cells #[.int .i64 0] 3))
  have B2 := qh (B1.out.alloc (.cells #[.pointer (some ⟨w.heap.size, 0, none⟩)] 68))
  have C2 := qh (C1.out.alloc (.cells #[.pointer (some ⟨w.heap.size, 0, none⟩)] 68))
  have V2 := qh (V1.out.alloc (.cells #[.pointer (some ⟨w.heap.size, 0, none⟩)] 68))
  have K2 := qh (K1.out.alloc K1.out.size (.cells #[.pointer (some ⟨w.heap.size, 0, none⟩)] 68))
  have P2 := Box.made_at (n := w.heap.size + 1 + 1 + 1) (((w.alloc (.cells #[.slice A n c] 27)).alloc (.cells En.zeroC 53)).alloc (.cells #[.int .i64 0] 3)) 68 #[.pointer (some ⟨w.heap.size, 0, none⟩)] (by simp)
  have L2 := hL.below K2.out
  have RD : Rd w.heap.size w.heap.size (w.heap.size + 1 + 1 + 1) bs _ := ⟨P2, A, c, by rw [← hn]; exact V2.out, by rw [← hn]; exact hc, by rw [← hn]; exact L2⟩
  have cl := qh (layentry_r (w.heap.size + 1) bs w.heap.size w.heap.size _ _ hBy (Nat.le_refl _) (Nat.le_succ _) K2.out.size RD B2.out)
  have HG := qh (show En.get bs = (En.dec bs).bind fun q => if q.2 = [] ∧ En.Ok q.1 then some q.1 else none from rfl)
  have HY := qh hBy
  clear hn hL L2 RD P2 hBy
  go_enter_defers Try.func89, Try.ntmps89
  go_upto_region 3 with (first | (with_reducible refine alloc_en rfl rfl ?_) | (go_at_call 41; ((with_reducible refine (reader_any _ _).mono ?_); rintro e w3 ⟨rfl, rfl⟩)) | (go_at_call 93; ((with_reducible refine (cl.out).mono ?_); rintro r w4 (⟨e, rest, S, hr, rfl, hI, hK, hB, hE⟩ | ⟨hn, ⟨ss, rfl⟩, hK, cs', hB, hs⟩); (all_goals first | (obtain ⟨_, A4, c4, hV, _, _⟩ := hI; have R4 := qh hr; have v4 := hV.cell 0; have B4 := qh hB; have E4 := qh hE; have C4 := qh (hK.kb _ _ _ C2.out (by omega) (by decide) (by decide)); have K4 := qh (K2.out.trans hK.below); clear hr hV hB hK hE cl) | (have N4 := qh hn; have B4 := qh hB; have S4 := qh hs; have C4 := qh (hK.kb _ _ _ C2.out (by omega) (by decide) (by decide)); have K4 := qh (K2.out.trans hK.below); clear hn hB hK hs cl)))))
  rotate_left
  · refine leaves_cons (f := 94) (args := #[.pointer (some ⟨w.heap.size + 1, 0, none⟩), .pointer (some ⟨w.heap.size + 1 + 1, 0, none⟩)]) (by simp) (by simp [go_sem]) ?_
    refine (encatch_get (w.heap.size + 1) (w.heap.size + 1 + 1) _ _ [] _ _ S4.out B4.out _ C4.out).mono ?_
    rintro r u' w'' ⟨rfl, rfl, rfl⟩
    have B8 := (B4.out.row En.zeroC).far (p := ⟨w.heap.size + 1 + 1, 0, none⟩) (show w.heap.size + 1 ≠ w.heap.size + 1 + 1 by omega) (.int .i64 2)
    have C8 := (C4.out.row_far (show w.heap.size + 1 + 1 ≠ w.heap.size + 1 by omega) En.zeroC).put 0 (.int .i64 2)
    have K8 := (Below.setRow' (g := w.heap.size + 1) K4.out (Nat.le_succ _) En.zeroC).setCell (p := ⟨w.heap.size + 1 + 1, 0, none⟩) (by show w.heap.size ≤ w.heap.size + 1 + 1; omega) (.int .i64 2)
    have hr := fun (tmps : Array Value) h1 h2 => results_cells2 (fn := Try.f89) (p := 2) (q := 3) rfl tmps _ (w.heap.size + 1) (w.heap.size + 1 + 1) 53 En.zeroC _ 2 h1 h2 B8 (by simpa using C8) Try.underlying53 rfl (by rw [En.zeroC_size]; exact en_info)
    show Leaves Try.prog _ _ _ [] .returning _
    exact ⟨_, hr _ rfl rfl, .inr ⟨by rw [HG.out, N4.out]; rfl, rfl, K8⟩⟩
  have HDI := qh (En.dec_inv HY.out R4.out)
  have ltS := E4.out.lt
  clear V1 B1 C1 K1 B2 C2 V2 K2
  cases hrest : rest with
  | cons x xs =>
    have HNE := qh (show ¬ (rest = [] ∧ En.Ok e) from fun h => by rw [hrest] at h; cases h.1)
    have hl0 : ((rest.length : Int) == 0) = false := by rw [hrest]; simp; omega
    generalize rest.length = m at *
    clear hrest
    go_wp2_with (go_at_call 30; ((with_reducible refine (need_no _ _).mono ?_); rintro r wn ⟨rfl, rfl⟩))
    refine leaves_cons (f := 94) (args := #[.pointer (some ⟨w.heap.size + 1, 0, none⟩), .pointer (some ⟨w.heap.size + 1 + 1, 0, none⟩)]) (by simp) (by simp [go_sem]) ?_
    refine (encatch_get (w.heap.size + 1) (w.heap.size + 1 + 1) _ _ [] _ _ (En.cells_size _ _) B4.out _ C4.out).mono ?_
    rintro r u' w'' ⟨rfl, rfl, rfl⟩
    have B8 := (B4.out.row En.zeroC).far (p := ⟨w.heap.size + 1 + 1, 0, none⟩) (show w.heap.size + 1 ≠ w.heap.size + 1 + 1 by omega) (.int .i64 2)
    have C8 := (C4.out.row_far (show w.heap.size + 1 + 1 ≠ w.heap.size + 1 by omega) En.zeroC).put 0 (.int .i64 2)
    have K8 := (Below.setRow' (g := w.heap.size + 1) K4.out (Nat.le_succ _) En.zeroC).setCell (p := ⟨w.heap.size + 1 + 1, 0, none⟩) (by show w.heap.size ≤ w.heap.size + 1 + 1; omega) (.int .i64 2)
    have hr := fun (tmps : Array Value) h1 h2 => results_cells2 (fn := Try.f89) (p := 2) (q := 3) rfl tmps _ (w.heap.size + 1) (w.heap.size + 1 + 1) 53 En.zeroC _ 2 h1 h2 B8 (by simpa using C8) Try.underlying53 rfl (by rw [En.zeroC_size]; exact en_info)
    show Leaves Try.prog _ _ _ [] .returning _
    exact ⟨_, hr _ rfl rfl, .inr ⟨by rw [HG.out, R4.out, Option.bind_some, if_neg HNE.out], rfl, K8⟩⟩
  | nil =>
    rw [hrest] at v4
    have HNE := qh hrest
    clear hrest
    have cm := fun X hX => qh (enmay_any e (some ⟨S, 0, none⟩) e.evs.length e.evs.length X rfl (by have := En.dec_few HY.out R4.out; unfold maxLen; omega) hX)
    have L4 := fun X (hX : Below w4.heap.size w4 X) => (Lies.boxed (E4.out.below hX E4.out.lt) (En.evCells_len _) : Lies X X.heap.size 4 (some ⟨S, 0, none⟩) e.evs.length (En.evCells e.evs))
    obtain ⟨v, hv⟩ : ∃ v, v = decide (En.Ok e) := ⟨_, rfl⟩
    rw [← hv] at cm
    have HV := qh hv
    clear hv
    have cmw := cm w4 (L4 w4 (Below.refl _ _))
    go_upto_region 5 with (first | (go_at_call 30; first | ((with_reducible refine (need_yes _ _).mono ?_); rintro r wn ⟨rfl, rfl⟩) | ((with_reducible refine (need_any _ _ _).mono ?_); rintro r wn (⟨hz, rfl, rfl⟩ | ⟨hz, ⟨ss, rfl⟩, rfl⟩))) | ((with_reducible refine en_load rfl rfl ?_); apply LoadEn.mk rfl; (focus (with_reducible exact B4.out)); dsimp only) | (go_at_call 57; ((with_reducible refine (cmw.out).mono ?_); rintro r w5 ⟨rfl, hb⟩; have B5 := qh (B4.out.below hb B4.out.lt); have C5 := qh (C4.out.below hb C4.out.lt); have E5 := qh (E4.out.below hb E4.out.lt); have K5 := qh (K4.out.trans (hb.mono K4.out.size)); clear hb)))
    rotate_left
    · have HNO := qh (show ¬ (rest = [] ∧ En.Ok e) from fun h => by have := HV.out; rw [hz] at this; exact absurd h.2 (of_decide_eq_false this.symm))
      refine leaves_cons (f := 94) (args := #[.pointer (some ⟨w.heap.size + 1, 0, none⟩), .pointer (some ⟨w.heap.size + 1 + 1, 0, none⟩)]) (by simp) (by simp [go_sem]) ?_
      refine (encatch_get (w.heap.size + 1) (w.heap.size + 1 + 1) _ _ [] _ _ (En.cells_size _ _) B5.out _ C5.out).mono ?_
      rintro r u' w'' ⟨rfl, rfl, rfl⟩
      have B8 := (B5.out.row En.zeroC).far (p := ⟨w.heap.size + 1 + 1, 0, none⟩) (show w.heap.size + 1 ≠ w.heap.size + 1 + 1 by omega) (.int .i64 2)
      have C8 := (C5.out.row_far (show w.heap.size + 1 + 1 ≠ w.heap.size + 1 by omega) En.zeroC).put 0 (.int .i64 2)
      have K8 := (Below.setRow' (g := w.heap.size + 1) K5.out (Nat.le_succ _) En.zeroC).setCell (p := ⟨w.heap.size + 1 + 1, 0, none⟩) (by show w.heap.size ≤ w.heap.size + 1 + 1; omega) (.int .i64 2)
      have hr := fun (tmps : Array Value) h1 h2 => results_cells2 (fn := Try.f89) (p := 2) (q := 3) rfl tmps _ (w.heap.size + 1) (w.heap.size + 1 + 1) 53 En.zeroC _ 2 h1 h2 B8 (by simpa using C8) Try.underlying53 rfl (by rw [En.zeroC_size]; exact en_info)
      show Leaves Try.prog _ _ _ [] .returning _
      exact ⟨_, hr _ rfl rfl, .inr ⟨by rw [HG.out, R4.out, Option.bind_some, if_neg HNO.out], rfl, K8⟩⟩
    have HYES := qh (show rest = [] ∧ En.Ok e from ⟨HNE.out, of_decide_eq_true (by rw [← HV.out]; exact hz)⟩)
    clear cm cmw
    have C6 := qh (C5.out.row_far (show w.heap.size + 1 + 1 ≠ w.heap.size + 1 by omega) (En.cells e (.slice (some ⟨S, 0, none⟩) e.evs.length e.evs.length)))
    have c6 := C6.out.cell 0
    have f6 := C6.out.free 0
    go_wp2_with (first | ((with_reducible refine en_load rfl rfl ?_); apply LoadEn.mk rfl; (focus (with_reducible exact B5.out)); dsimp only) | ((with_reducible refine blk_gate (t := 53) rfl rfl en_info ?_); apply StoreBlk.mk rfl rfl B5.out (En.cells_one _ _ rfl) (En.cells_size _ _) (En.cells_size _ _)))
    have ne : w.heap.size + 1 ≠ w.heap.size + 1 + 1 := by omega
    have B7 := (B5.out.row (En.cells e (.slice (some ⟨S, 0, none⟩) e.evs.length e.evs.length))).far (p := ⟨w.heap.size + 1 + 1, 0, none⟩) ne (.int .i64 0)
    have C7 := C6.out.put 0 (.int .i64 0)
    have E7 := (E5.out.row_far (Box.apart E5.out B5.out (by decide)) (En.cells e (.slice (some ⟨S, 0, none⟩) e.evs.length e.evs.length))).far (p := ⟨w.heap.size + 1 + 1, 0, none⟩) (Box.apart E5.out C5.out (by decide)) (.int .i64 0)
    have K7 := (Below.setRow' (g := w.heap.size + 1) K5.out (Nat.le_succ _) (En.cells e (.slice (some ⟨S, 0, none⟩) e.evs.length e.evs.length))).setCell (p := ⟨w.heap.size + 1 + 1, 0, none⟩) (by show w.heap.size ≤ w.heap.size + 1 + 1; omega) (.int .i64 0)
    refine leaves_cons (f := 94) (args := #[.pointer (some ⟨w.heap.size + 1, 0, none⟩), .pointer (some ⟨w.heap.size + 1 + 1, 0, none⟩)]) (by simp) (by simp [go_sem]) ?_
    refine (encatch_idle_get _ _ _).mono ?_
    rintro r u' w'' ⟨rfl, rfl, rfl⟩
    have hr := fun (tmps : Array Value) h1 h2 => results_cells2 (fn := Try.f89) (p := 2) (q := 3) rfl tmps _ (w.heap.size + 1) (w.heap.size + 1 + 1) 53 (En.cells e (.slice (some ⟨S, 0, none⟩) e.evs.length e.evs.length)) _ 0 h1 h2 B7 (by simpa using C7) Try.underlying53 rfl (by rw [En.cells_size]; exact en_info)
    show Leaves Try.prog _ _ _ [] .returning _
    exact ⟨_, hr _ rfl rfl, .inl ⟨e, S, by rw [HG.out, R4.out, Option.bind_some, if_pos HYES.out], rfl, E7, K7⟩⟩
end Go.Proofs.Ytgmlbimgcifenaa
namespace En
open Go
open Classical in
noncomputable def evsB (l m : List Ev) : Bool := decide (l = m)
open Classical in
noncomputable def likeB (e o : E) : Bool := decide (Like e o)
open Classical in
theorem evsB_yes {l m : List Ev} (h : l = m) : evsB l m = true := decide_eq_true h
open Classical in
theorem evsB_no {l m : List Ev} (h : ¬ l = m) : evsB l m = false := decide_eq_false h
open Classical in
theorem likeB_yes {e o : E} (h : Like e o) : likeB e o = true := decide_eq_true h
open Classical in
theorem likeB_no {e o : E} (h : ¬ Like e o) : likeB e o = false := decide_eq_false h
open Classical in
theorem likeB_iff {e o : E} : likeB e o = true ↔ Like e o := by unfold likeB; exact decide_eq_true_iff
theorem Like.refl (e : E) : Like e e := ⟨rfl, rfl, fun _ _ => rfl⟩
theorem Like.symm {e o : E} (h : Like e o) : Like o e := ⟨h.1.symm, h.2.1.symm, fun i hi => (h.2.2 i hi).symm⟩
theorem Like.trans {e o u : E} (h : Like e o) (k : Like o u) : Like e u := ⟨h.1.trans k.1, h.2.1.trans k.2.1, fun i hi => (h.2.2 i hi).trans (k.2.2 i hi)⟩
end En
namespace Go.Proofs.Ytgmlbimgcifenaa
open Go.RowKit Go.Shelf
theorem ev_neq (a b c d e f g h : Int) (w : World) : (binOp .neq 59 (.agg #[.int .i64 a, .int .i64 b, .int .i64 c, .int .i64 d]) (.agg #[.int .i64 e, .int .i64 f, .int .i64 g, .int .i64 h])).run Try.prog w = .ok (.bool (!decide (a = e ∧ b = f ∧ c = g ∧ d = h))) w := by
  have hh : (Op.equalIn 10000 59 (.agg #[.int .i64 a, .int .i64 b, .int .i64 c, .int .i64 d]) (.agg #[.int .i64 e, .int .i64 f, .int .i64 g, .int .i64 h])).run Try.prog w = .ok (decide (a = e ∧ b = f ∧ c = g ∧ d = h)) w := by
    by_cases h1 : a = e
    · by_cases h2 : b = f
      · by_cases h3 : c = g
        · by_cases h4 : d = h
          · subst h1 h2 h3 h4; go_simp <;> simp
          · have h5 : (d == h) = false := by simpa using h4
            subst h1 h2 h3; go_simp <;> simp [h5, h4]
        · have h5 : (c == g) = false := by simpa using h3
          subst h1 h2; go_simp <;> simp [h5, h3]
      · have h5 : (b == f) = false := by simpa using h2
        subst h1; go_simp <;> simp [h5, h2]
    · have h5 : (a == e) = false := by simpa using h1
      go_simp <;> simp [h5, h1]
  generalize #[Value.int .i64 a, .int .i64 b, .int .i64 c, .int .i64 d] = F at *
  generalize #[Value.int .i64 e, .int .i64 f, .int .i64 g, .int .i64 h] = G at *
  go_simp
theorem evsequal_any (l m : List En.Ev) (A B : Option Addr) (n n' c d : Nat) (w : World) (hn : n = l.length) (hm : n' = m.length) (n64 : n ≤ maxLen) (m64 : n' ≤ maxLen) (hr : Lies w w.heap.size 4 A n (En.evCells l)) (hq : Lies w w.heap.size 4 B n' (En.evCells m)) :
    Calls Try.prog 65 #[.slice A n c, .slice B n' d] w fun e w' => e = .returned (.bool (En.evsB l m)) ∧ Below w.heap.size w w' := by
  obtain ⟨r, hr0⟩ : ∃ r, r = En.evsB l m := ⟨_, rfl⟩
  rw [← hr0]
  have HR := qh hr0
  have n63 : (n : Int) ≤ 9223372036854775807 := by unfold maxLen at n64; omega
  have m63 : (n' : Int) ≤ 9223372036854775807 := by unfold maxLen at m64; omega
  clear hr0 n64 m64
  by_cases hnn : n = n'
  · subst hnn
    have HN := qh hn
    have HM := qh hm
    clear hn hm
    go_enter Try.func65, Try.ntmps65
    go_wp2
    go_loopw [13] (fun i wr => ∃ k : Nat, k ≤ n ∧ i = .int .i64 k ∧ Below w.heap.size w wr ∧ ∀ j, j < k → l[j]? = m[j]?) (fun i _ => n - (intOf i).toNat)
    case atStart => exact ⟨0, by omega, rfl, Below.refl _ _, fun j hj => absurd hj (Nat.not_lt_zero j)⟩
    case round =>
      obtain ⟨k, hk, rfl, hb, hall⟩ := hrel
      by_cases hlt : k < n
      · have hk8 : (k : Int) < n := by omega
        have hkl : k < l.length := by have := HN.out; omega
        have hkm : k < m.length := by have := HM.out; omega
        obtain ⟨ad, rfl, hbl, a0, a1, a2, a3⟩ := evs_at (hr.below hb) HN.out k hkl
        obtain ⟨bd, rfl, hbm, c0, c1, c2, c3⟩ := evs_at (hq.below hb) HM.out k hkm
        have hlk : l[k]? = some l[k] := List.getElem?_eq_getElem hkl
        have hmk : m[k]? = some m[k] := List.getElem?_eq_getElem hkm
        generalize l[k] = u at a0 a1 a2 a3 hlk
        generalize m[k] = v at c0 c1 c2 c3 hmk
        obtain ⟨u0, u1, u2, u3⟩ := u
        obtain ⟨v0, v1, v2, v3⟩ := v
        dsimp only at a0 a1 a2 a3 c0 c1 c2 c3
        have hneq := fun W => ev_neq u0 u1 u2 u3 v0 v1 v2 v3 W
        have HB := qh hb
        have HALL := qh hall
        have HLK := qh hlk
        have HMK := qh hmk
        clear hr hq hb hall hlk hmk
        by_cases he : u0 = v0 ∧ u1 = v1 ∧ u2 = v2 ∧ u3 = v3
        · rw [decide_eq_true he] at hneq
          have hnew := qh (show ∀ j, j < k + 1 → l[j]? = m[j]? from fun j hj => by
            by_cases e : j = k
            · rw [e, HLK.out, HMK.out, he.1, he.2.1, he.2.2.1, he.2.2.2]
            · exact HALL.out j (by omega))
          clear he
          go_upto_region 6 with fail
          go_quiet (fail)
          go_wp2
          go_roundw
          case rel => exact ⟨k + 1, by omega, by go_num, draws_below HB.out _, hnew.out⟩
          case measure => simp [intOf]; omega
        · rw [decide_eq_false he] at hneq
          have hno := qh (show ¬ l = m from fun h => he (by
            have h1 := HLK.out
            rw [h, HMK.out] at h1
            injection h1 with h1
            injection h1 with h1 h2 h3 h4
            exact ⟨h1.symm, h2.symm, h3.symm, h4.symm⟩))
          clear he
          go_upto_region 6 with fail
          go_quiet (fail)
          go_wp2
          go_ret
          exact ⟨ret_bool (by rw [HR.out]; exact (En.evsB_no hno.out).symm), draws_below HB.out _⟩
      · have hk8 : ¬ (k : Int) < n := by omega
        have hyes := qh (show l = m from List.ext_getElem? fun i => by
          by_cases hi : i < k
          · exact hall i hi
          · rw [List.getElem?_eq_none (by have := HN.out; omega), List.getElem?_eq_none (by have := HM.out; omega)])
        have HB := qh hb
        clear hr hq hb hall
        go_wp2
        go_ret
        exact ⟨ret_bool (by rw [HR.out]; exact (En.evsB_yes hyes.out).symm), HB.out⟩
  · have hne : ((n : Int) != n') = true := by simp; omega
    have hno := qh (show ¬ l = m from fun h => hnn (by rw [hn, hm, h]))
    clear hr hq hn hm hnn
    go_enter Try.func65, Try.ntmps65
    go_wp2
    go_ret
    exact ⟨ret_bool (by rw [HR.out]; exact (En.evsB_no hno.out).symm), Below.refl _ _⟩
theorem ensame_any (q u : En.S) (w : World) (q64 : q.e.evs.length ≤ maxLen) (u64 : u.e.evs.length ≤ maxLen) (hr : Lies w w.heap.size 4 q.adr q.e.evs.length (En.evCells q.e.evs)) (hq : Lies w w.heap.size 4 u.adr u.e.evs.length (En.evCells u.e.evs)) :
    Calls Try.prog 49 #[.agg (En.cells q.e q.sl), .agg (En.cells u.e u.sl)] w fun e w' => e = .returned (.bool (En.likeB q.e u.e)) ∧ Below w.heap.size w w' := by
  obtain ⟨⟨f, l, i⟩, A, c⟩ := q
  obtain ⟨⟨g, m, j⟩, B, d⟩ := u
  dsimp only [En.S.sl] at *
  obtain ⟨r, hr0⟩ : ∃ r, r = En.likeB ⟨f, l, i⟩ ⟨g, m, j⟩ := ⟨_, rfl⟩
  rw [← hr0]
  have HR := qh hr0
  have P1 := qh ((Box.made w 53 (En.cells ⟨f, l, i⟩ (.slice A l.length c))).alloc (.cells (En.cells ⟨g, m, j⟩ (.slice B m.length d)) 53))
  have P2 := qh (Box.made_at (n := w.heap.size + 1) (w.alloc (.cells (En.cells ⟨f, l, i⟩ (.slice A l.length c)) 53)) 53 (En.cells ⟨g, m, j⟩ (.slice B m.length d)) (by simp))
  have hb0 := two_below' w (.cells (En.cells ⟨f, l, i⟩ (.slice A l.length c)) 53) (.cells (En.cells ⟨g, m, j⟩ (.slice B m.length d)) 53)
  have K0 := qh hb0
  have a0 := P1.out.cell 0
  have a1 := P1.out.cell 1
  have b0 := P2.out.cell 0
  have b1 := P2.out.cell 1
  rw [En.cells_0] at a0 b0
  rw [En.cells_1] at a1 b1
  dsimp only at a0 b0
  have ce := qh (evsequal_any l m A B l.length m.length c d _ rfl rfl q64 u64 ((hr.below hb0).wider hb0.size) ((hq.below hb0).wider hb0.size))
  have hins := fun W => ins_eql i j W
  have hii := En.insEq_iff i j
  generalize En.insEq i j = bi at hins hii
  have HII := qh hii
  generalize hll : l.length = n at *
  generalize hml : m.length = n' at *
  clear hr hq hb0 hr0 hii hll hml
  by_cases hf : f = g
  · subst hf
    cases bi
    · have hno := qh (show ¬ En.Like ⟨f, l, i⟩ ⟨f, m, j⟩ from fun h => by have := HII.out.2 h.2.2; cases this)
      go_enter Try.func49, Try.ntmps49
      go_wp2_with ((with_reducible refine en_load_ins_g ?_ rfl ?_); (focus first | rfl | kernel_rfl | simp [Region.wanted, yielded]); apply LoadEn.mk rfl; (focus first | (with_reducible exact P1.out) | (with_reducible exact P2.out)); dsimp only)
      go_ret
      exact ⟨ret_bool (by rw [HR.out]; exact (En.likeB_no hno.out).symm), K0.out⟩
    · obtain ⟨be, hbe⟩ : ∃ be, be = En.evsB l m := ⟨_, rfl⟩
      rw [← hbe] at ce
      have HL := qh (show En.likeB ⟨f, l, i⟩ ⟨f, m, j⟩ = be by
        rw [hbe]
        by_cases h : l = m
        · rw [En.evsB_yes h]; exact En.likeB_yes ⟨rfl, h, HII.out.1 rfl⟩
        · rw [En.evsB_no h]; exact En.likeB_no fun k => h k.2.1)
      clear hbe
      go_enter Try.func49, Try.ntmps49
      go_wp2_with (first | ((with_reducible refine en_load_ins_g ?_ rfl ?_); (focus first | rfl | kernel_rfl | simp [Region.wanted, yielded]); apply LoadEn.mk rfl; (focus first | (with_reducible exact P1.out) | (with_reducible exact P2.out)); dsimp only) | (go_at_call 65; ((with_reducible refine (ce.out).mono ?_); rintro r w1 ⟨rfl, hb⟩; have K1 := qh (K0.out.trans (hb.mono K0.out.size)); clear hb)))
      go_ret
      exact ⟨ret_bool (by rw [HR.out]; simpa using HL.out.symm), K1.out⟩
  · have hfb : (f == g) = false := by simpa using hf
    have hno := qh (show ¬ En.Like ⟨f, l, i⟩ ⟨g, m, j⟩ from fun h => hf h.1)
    clear hf
    go_enter Try.func49, Try.ntmps49
    go_wp2
    go_ret
    exact ⟨ret_bool (by rw [HR.out]; exact (En.likeB_no hno.out).symm), K0.out⟩
end Go.Proofs.Ytgmlbimgcifenaa
namespace En
open Go
open Classical in
noncomputable def eqB (l m : List S) : Bool := decide (l.length = m.length ∧ ∀ j (h : j < l.length) (h' : j < m.length), Like l[j].e m[j].e)
open Classical in
theorem eqB_yes {l m : List S} (h : l.length = m.length ∧ ∀ j (h : j < l.length) (h' : j < m.length), Like l[j].e m[j].e) : eqB l m = true := decide_eq_true h
open Classical in
theorem eqB_no {l m : List S} (h : ¬ (l.length = m.length ∧ ∀ j (h : j < l.length) (h' : j < m.length), Like l[j].e m[j].e)) : eqB l m = false := decide_eq_false h
open Classical in
noncomputable def frontB (l m : List S) : Bool := decide (l.length ≤ m.length ∧ ∀ j (h : j < l.length) (h' : j < m.length), Like l[j].e m[j].e)
open Classical in
theorem frontB_yes {l m : List S} (h : l.length ≤ m.length ∧ ∀ j (h : j < l.length) (h' : j < m.length), Like l[j].e m[j].e) : frontB l m = true := decide_eq_true h
open Classical in
theorem frontB_no {l m : List S} (h : ¬ (l.length ≤ m.length ∧ ∀ j (h : j < l.length) (h' : j < m.length), Like l[j].e m[j].e)) : frontB l m = false := decide_eq_false h
end En
namespace Go.Proofs.Ytgmlbimgcifenaa
open Go.RowKit Go.Shelf
theorem eqfunc_any (l m : List En.S) (A B : Option Addr) (n n' c d : Nat) (w : World) (n64 : n ≤ maxLen) (m64 : n' ≤ maxLen) (hr : LiesS w w.heap.size A n l) (hq : LiesS w w.heap.size B n' m) :
    Calls Try.prog 48 #[.slice A n c, .slice B n' d, .func (.func 49) #[] #[]] w fun e w' => e = .returned (.bool (En.eqB l m)) ∧ Below w.heap.size w w' := by
  obtain ⟨r, hr0⟩ : ∃ r, r = En.eqB l m := ⟨_, rfl⟩
  rw [← hr0]
  have HR := qh hr0
  have n63 : (n : Int) ≤ 9223372036854775807 := by unfold maxLen at n64; omega
  have m63 : (n' : Int) ≤ 9223372036854775807 := by unfold maxLen at m64; omega
  have HN := qh hr.len
  have HM := qh hq.len
  clear hr0 n64 m64
  by_cases hnn : n = n'
  · subst hnn
    go_enter Try.func48, Try.ntmps48
    go_wp2
    go_loopw [17] (fun i wr => ∃ k : Nat, k ≤ n ∧ i = .int .i64 k ∧ Below w.heap.size w wr ∧ ∀ j (h : j < l.length) (h' : j < m.length), j < k → En.Like l[j].e m[j].e) (fun i _ => n - (intOf i).toNat)
    case atStart => exact ⟨0, by omega, rfl, Below.refl _ _, fun j _ _ hj => absurd hj (Nat.not_lt_zero j)⟩
    case round =>
      obtain ⟨k, hk, rfl, hb, hall⟩ := hrel
      by_cases hlt : k < n
      · have hk8 : (k : Int) < n := by omega
        have hkl : k < l.length := by have := HN.out; omega
        have hkm : k < m.length := by have := HM.out; omega
        obtain ⟨ad, rfl, hbl, a0⟩ := (hr.below hb).at k hkl
        obtain ⟨bd, rfl, hbm, b0⟩ := (hq.below hb).at k hkm
        have he1 := (hr.below hb).each l[k] (List.getElem_mem hkl)
        have he2 := (hq.below hb).each m[k] (List.getElem_mem hkm)
        have hf1 := hr.few l[k] (List.getElem_mem hkl)
        have hf2 := hq.few m[k] (List.getElem_mem hkm)
        have hck : ∀ j (h : j < l.length) (h' : j < m.length), j < k + 1 → En.Like l[k].e m[k].e → En.Like l[j].e m[j].e := fun j h h' hj hlk => by
          by_cases e : j = k
          · subst e; exact hlk
          · exact hall j h h' (by omega)
        have hno1 : ¬ En.Like l[k].e m[k].e → ¬ (l.length = m.length ∧ ∀ j (h : j < l.length) (h' : j < m.length), En.Like l[j].e m[j].e) := fun h q => h (q.2 k hkl hkm)
        generalize l[k] = u at a0 he1 hf1 hck hno1
        generalize m[k] = v at b0 he2 hf2 hck hno1
        have W0 := qh (show (wr.alloc (.cells (En.cells u.e u.sl) 53)).heap.size = wr.heap.size + 1 by simp)
        have la1 : ∀ X, Below wr.heap.size wr X → ∀ j x, u.cells[j]? = some x → X.cell? ((ad.add (k * 26)).add j) = some x := fun X hX j x hx => by
          rw [World.cell?_of_block (w := wr) (by rw [add_block, add_block]; exact hX.block _ (Nat.lt_of_lt_of_le hbl hb.size))]
          exact a0 j x hx
        have lb1 : ∀ X, Below wr.heap.size wr X → ∀ j x, v.cells[j]? = some x → X.cell? ((bd.add (k * 26)).add j) = some x := fun X hX j x hx => by
          rw [World.cell?_of_block (w := wr) (by rw [add_block, add_block]; exact hX.block _ (Nat.lt_of_lt_of_le hbm hb.size))]
          exact b0 j x hx
        have LA := qh (la1 wr (Below.refl _ _))
        have LB := qh (lb1 (wr.alloc (.cells (En.cells u.e u.sl) 53)) (one_below _ _))
        have hb2 := two_below' wr (.cells (En.cells u.e u.sl) 53) (.cells (En.cells v.e v.sl) 53)
        have P1 := qh ((Box.made wr 53 (En.cells u.e u.sl)).alloc (.cells (En.cells v.e v.sl) 53))
        have P2 := qh (Box.made_at (n := wr.heap.size + 1) (wr.alloc (.cells (En.cells u.e u.sl) 53)) 53 (En.cells v.e v.sl) (by simp))
        have cs := qh (ensame_any u v _ hf1 hf2 (((he1.wider hb.size).below hb2).wider hb2.size) (((he2.wider hb.size).below hb2).wider hb2.size))
        have K2 := qh (hb.trans (hb2.mono hb.size))
        have sz := hb.size
        have HCK := qh hck
        have HNO := qh hno1
        have ltA : (ad.add (k * 26)).block < wr.heap.size := by rw [add_block]; exact Nat.lt_of_lt_of_le hbl hb.size
        have ltB : (bd.add (k * 26)).block < wr.heap.size := by rw [add_block]; exact Nat.lt_of_lt_of_le hbm hb.size
        clear a0 b0 he1 he2 hf1 hf2 hck hno1 la1 lb1 hb2 hall hb hr hq
        obtain ⟨b, hbv⟩ : ∃ b, b = En.likeB u.e v.e := ⟨_, rfl⟩
        rw [← hbv] at cs
        have HBV := qh hbv
        clear hbv
        go_wp2_with (first | (with_reducible refine alloc_en rfl rfl ?_) | ((with_reducible refine load_at_gate rfl rfl Try.underlying53 rfl en_info26 ?_); first | (apply LoadAt.mk rfl LA.out (En.S.cells_len _); rw [En.S.cells_arr]) | (apply LoadAt.mk rfl LB.out (En.S.cells_len _); rw [En.S.cells_arr])) | (with_reducible refine en_store_new rfl rfl rfl rfl En.zeroC_size rfl ?_) | ((with_reducible refine en_load rfl rfl ?_); apply LoadEn.mk rfl; (focus first | (with_reducible exact P1.out) | (with_reducible exact P2.out)); dsimp only) | (go_at_call 49; ((with_reducible refine (cs.out).mono ?_); rintro r w1 ⟨rfl, hb⟩; have K3 := qh (K2.out.trans (hb.mono K2.out.size)); clear hb; cases b)))
        · go_ret
          exact ⟨ret_bool (by rw [HR.out]; exact (En.eqB_no (HNO.out fun h => by have := En.likeB_yes h; rw [← HBV.out] at this; cases this)).symm), K3.out⟩
        · go_roundw
          case rel => exact ⟨k + 1, by omega, by go_num, K3.out, fun j h h' hj => HCK.out j h h' hj (En.likeB_iff.1 HBV.out.symm)⟩
          case measure => simp [intOf]; omega
      · have hk8 : ¬ (k : Int) < n := by omega
        have hyes := qh (show l.length = m.length ∧ ∀ j (h : j < l.length) (h' : j < m.length), En.Like l[j].e m[j].e from ⟨by rw [HN.out, HM.out], fun j h h' => hall j h h' (by have := HN.out; omega)⟩)
        have HB := qh hb
        clear hall hb hr hq
        go_wp2
        go_ret
        exact ⟨ret_bool (by rw [HR.out]; exact (En.eqB_yes hyes.out).symm), HB.out⟩
  · have hne : ((n : Int) != n') = true := by simp; omega
    have hno := qh (show ¬ (l.length = m.length ∧ ∀ j (h : j < l.length) (h' : j < m.length), En.Like l[j].e m[j].e) from fun h => hnn (by rw [← HN.out, ← HM.out, h.1]))
    clear hr hq hnn
    go_enter Try.func48, Try.ntmps48
    go_wp2
    go_ret
    exact ⟨ret_bool (by rw [HR.out]; exact (En.eqB_no hno.out).symm), Below.refl _ _⟩
theorem enfew_any (e : En.E) (A : Option Addr) (n c : Nat) (w : World) : Calls Try.prog 25 #[.agg (En.cells e (.slice A n c))] w fun r w' => r = .returned (.bool (decide ((n : Int) ≤ 20))) ∧ Below w.heap.size w w' := by
  have P0 := qh (Box.made w 53 (En.cells e (.slice A n c)))
  have c1 := P0.out.cell 1
  rw [En.cells_1] at c1
  go_enter Try.func25, Try.ntmps25
  go_wp2
  go_ret
  exact ⟨rfl, one_below _ _⟩
theorem refsameen_any (q u : En.S) (w : World) (q64 : q.e.evs.length ≤ maxLen) (u64 : u.e.evs.length ≤ maxLen) (hr : Lies w w.heap.size 4 q.adr q.e.evs.length (En.evCells q.e.evs)) (hq : Lies w w.heap.size 4 u.adr u.e.evs.length (En.evCells u.e.evs)) :
    Calls Try.prog 64 #[.agg (En.cells q.e q.sl), .agg (En.cells u.e u.sl)] w fun e w' => e = .returned (.bool (En.likeB q.e u.e)) ∧ Below w.heap.size w w' := by
  obtain ⟨⟨f, l, i⟩, A, c⟩ := q
  obtain ⟨⟨g, m, j⟩, B, d⟩ := u
  dsimp only [En.S.sl] at *
  obtain ⟨r, hr0⟩ : ∃ r, r = En.likeB ⟨f, l, i⟩ ⟨g, m, j⟩ := ⟨_, rfl⟩
  rw [← hr0]
  have HR := qh hr0
  have P1 := qh ((Box.made w 53 (En.cells ⟨f, l, i⟩ (.slice A l.length c))).alloc (.cells (En.cells ⟨g, m, j⟩ (.slice B m.length d)) 53))
  have P2 := qh (Box.made_at (n := w.heap.size + 1) (w.alloc (.cells (En.cells ⟨f, l, i⟩ (.slice A l.length c)) 53)) 53 (En.cells ⟨g, m, j⟩ (.slice B m.length d)) (by simp))
  have hb0 := two_below' w (.cells (En.cells ⟨f, l, i⟩ (.slice A l.length c)) 53) (.cells (En.cells ⟨g, m, j⟩ (.slice B m.length d)) 53)
  have K0 := qh hb0
  have a0 := P1.out.cell 0
  have a1 := P1.out.cell 1
  have b0 := P2.out.cell 0
  have b1 := P2.out.cell 1
  rw [En.cells_0] at a0 b0
  rw [En.cells_1] at a1 b1
  dsimp only at a0 b0
  have HLA := qh ((hr.below hb0).wider hb0.size)
  have HLB := qh ((hq.below hb0).wider hb0.size)
  have hins := fun W => ins_neq i j W
  have hii := En.insEq_iff i j
  generalize En.insEq i j = bi at hins hii
  have HII := qh hii
  generalize hll : l.length = n at *
  generalize hml : m.length = n' at *
  have HN := qh hll.symm
  have HM := qh hml.symm
  have n63 : (n : Int) ≤ 9223372036854775807 := by unfold maxLen at q64; omega
  have m63 : (n' : Int) ≤ 9223372036854775807 := by unfold maxLen at u64; omega
  clear hr hq hb0 hr0 hii q64 u64 hll hml
  (try dsimp only at HLA HLB)
  by_cases hf : f = g
  · subst hf
    have hfb : (f != f) = false := by simp
    cases bi
    · have hno := qh (show ¬ En.Like ⟨f, l, i⟩ ⟨f, m, j⟩ from fun h => by have := HII.out.2 h.2.2; cases this)
      go_enter Try.func64, Try.ntmps64
      go_wp2_with ((with_reducible refine en_load_ins_g ?_ rfl ?_); (focus first | rfl | kernel_rfl | simp [Region.wanted, yielded]); apply LoadEn.mk rfl; (focus first | (with_reducible exact P1.out) | (with_reducible exact P2.out)); dsimp only)
      go_ret
      exact ⟨ret_bool (by rw [HR.out]; exact (En.likeB_no hno.out).symm), K0.out⟩
    · by_cases hnn : n = n'
      · subst hnn
        have hnb : ((n : Int) != n) = false := by simp
        go_enter Try.func64, Try.ntmps64
        go_wp2_with ((with_reducible refine en_load_ins_g ?_ rfl ?_); (focus first | rfl | kernel_rfl | simp [Region.wanted, yielded]); apply LoadEn.mk rfl; (focus first | (with_reducible exact P1.out) | (with_reducible exact P2.out)); dsimp only)
        go_loopw [5] (fun iv wr => ∃ k : Nat, k ≤ n ∧ iv = .int .i64 k ∧ Below ((w.alloc (.cells (En.cells ⟨f, l, i⟩ (.slice A n c)) 53)).alloc (.cells (En.cells ⟨f, m, j⟩ (.slice B n d)) 53)).heap.size ((w.alloc (.cells (En.cells ⟨f, l, i⟩ (.slice A n c)) 53)).alloc (.cells (En.cells ⟨f, m, j⟩ (.slice B n d)) 53)) wr ∧ ∀ j, j < k → l[j]? = m[j]?) (fun iv _ => n - (intOf iv).toNat)
        case atStart => exact ⟨0, by omega, rfl, Below.refl _ _, fun j hj => absurd hj (Nat.not_lt_zero j)⟩
        case round =>
          obtain ⟨k, hk, rfl, hb, hall⟩ := hrel
          have KB := qh (K0.out.trans (hb.mono (by simp <;> omega)))
          have p1 := ((P1.out.below hb P1.out.lt).cell 1).trans (En.cells_1 _ _)
          have p2 := ((P2.out.below hb P2.out.lt).cell 1).trans (En.cells_1 _ _)
          have hra := HLA.out.below hb
          have hrb := HLB.out.below hb
          clear a0 a1 b0 b1 P1 P2
          by_cases hlt : k < n
          · have hk8 : (k : Int) < n := by omega
            have hkl : k < l.length := by have := HN.out; omega
            have hkm : k < m.length := by have := HM.out; omega
            obtain ⟨ad, rfl, hbl, a0, a1, a2, a3⟩ := evs_at hra HN.out k hkl
            obtain ⟨bd, rfl, hbm, c0, c1, c2, c3⟩ := evs_at hrb HM.out k hkm
            have hlk : l[k]? = some l[k] := List.getElem?_eq_getElem hkl
            have hmk : m[k]? = some m[k] := List.getElem?_eq_getElem hkm
            generalize l[k] = u at a0 a1 a2 a3 hlk
            generalize m[k] = v at c0 c1 c2 c3 hmk
            obtain ⟨u0, u1, u2, u3⟩ := u
            obtain ⟨v0, v1, v2, v3⟩ := v
            dsimp only at a0 a1 a2 a3 c0 c1 c2 c3
            have hneq := fun W => ev_neq u0 u1 u2 u3 v0 v1 v2 v3 W
            have HB := qh hb
            have HALL := qh hall
            have HLK := qh hlk
            have HMK := qh hmk
            clear hra hrb hb hall hlk hmk hbl hbm hins HLA HLB K0
            by_cases he : u0 = v0 ∧ u1 = v1 ∧ u2 = v2 ∧ u3 = v3
            · rw [decide_eq_true he] at hneq
              have hnew := qh (show ∀ j, j < k + 1 → l[j]? = m[j]? from fun j hj => by
                by_cases e : j = k
                · rw [e, HLK.out, HMK.out, he.1, he.2.1, he.2.2.1, he.2.2.2]
                · exact HALL.out j (by omega))
              clear he
              go_upto_region 6 with fail
              go_quiet (fail)
              go_wp2
              go_roundw
              case rel => exact ⟨k + 1, by omega, by go_num, draws_below HB.out _, hnew.out⟩
              case measure => simp [intOf]; omega
            · rw [decide_eq_false he] at hneq
              have hno := qh (show ¬ En.Like ⟨f, l, i⟩ ⟨f, m, j⟩ from fun h => he (by
                have h1 := HLK.out
                rw [show l = m from h.2.1, HMK.out] at h1
                injection h1 with h1
                injection h1 with h1 h2 h3 h4
                exact ⟨h1.symm, h2.symm, h3.symm, h4.symm⟩))
              clear he
              go_upto_region 6 with fail
              go_quiet (fail)
              go_wp2
              go_ret
              exact ⟨ret_bool (by rw [HR.out]; exact (En.likeB_no hno.out).symm), draws_below KB.out _⟩
          · have hk8 : ¬ (k : Int) < n := by omega
            have hyes := qh (show l = m from List.ext_getElem? fun i => by
              by_cases hi : i < k
              · exact hall i hi
              · rw [List.getElem?_eq_none (by have := HN.out; omega), List.getElem?_eq_none (by have := HM.out; omega)])
            clear hra hrb hb hall hins HLA HLB K0
            go_wp2
            go_ret
            exact ⟨ret_bool (by rw [HR.out]; exact (En.likeB_yes (show En.Like ⟨f, l, i⟩ ⟨f, m, j⟩ from ⟨rfl, hyes.out, HII.out.1 (by first | rfl | trivial)⟩)).symm), KB.out⟩
      · have hne : ((n : Int) != n') = true := by simp; omega
        have hno := qh (show ¬ En.Like ⟨f, l, i⟩ ⟨f, m, j⟩ from fun h => hnn (by rw [HN.out, HM.out, show l = m from h.2.1]))
        clear hnn
        go_enter Try.func64, Try.ntmps64
        go_wp2_with ((with_reducible refine en_load_ins_g ?_ rfl ?_); (focus first | rfl | kernel_rfl | simp [Region.wanted, yielded]); apply LoadEn.mk rfl; (focus first | (with_reducible exact P1.out) | (with_reducible exact P2.out)); dsimp only)
        go_ret
        exact ⟨ret_bool (by rw [HR.out]; exact (En.likeB_no hno.out).symm), K0.out⟩
  · have hfb : (f != g) = true := by simpa using hf
    have hno := qh (show ¬ En.Like ⟨f, l, i⟩ ⟨g, m, j⟩ from fun h => hf h.1)
    clear hf
    go_enter Try.func64, Try.ntmps64
    go_wp2
    go_ret
    exact ⟨ret_bool (by rw [HR.out]; exact (En.likeB_no hno.out).symm), K0.out⟩
end Go.Proofs.Ytgmlbimgcifenaa
namespace Go.Proofs.Ytgmlbimgcifenaa
open Go.RowKit Go.Shelf
theorem en_fill (e : En.E) (s : Value) : Instr.fill (fun i => some (i * 26, 26)) ((Array.range (1 * 26)).map ((Value.agg En.zeroC).cells[· % (Value.agg En.zeroC).cells.size]!)) [(0, .agg (En.cells e s))] = some (En.cells e s) := by kernel_rfl
theorem en_slice (e : En.E) (s : Value) (W : World) : (Instr.buildSlice 26 1 #[(0, .agg (En.cells e s))]).run Try.prog W = .ok (.slice (some ⟨W.heap.size, 0, none⟩) 1 1) (W.alloc (.cells (En.cells e s) 53)) := by
  have h1 := en_info
  have h2 := en_zero
  cases hq : Try.prog.info? 53 with
  | none => rw [hq] at h1; cases h1
  | some ie =>
    rw [hq] at h1 h2
    have hs : ie.size = 26 := by simpa using h1
    have hz : ie.zero = some (.agg En.zeroC) := by simpa using h2
    exact run_buildSlice W _ _ 1 _ _ ie (.agg En.zeroC) Try.underlying26 hq hz (by rw [hs]; decide) (by rw [hs]; decide) (by rw [hs]; exact en_fill e s)
section
variable {ops : Array Oper} {rest : List Oper} {o : Oper} {a : Act} {w : World} {Q : Exit → Act → World → Prop} {x : Operand} {dst : Option Tmp} {v : Value}
def BuildEn (ops : Array Oper) (Q : Exit → Act → World → Prop) (rest : List Oper) (dst : Option Tmp) (v : Value) (a : Act) (w : World) : Prop :=
  ∃ (e : En.E) (s : Value), v = .agg (En.cells e s) ∧ wpList Try.prog ops Q rest (a.put dst (.slice (some ⟨w.heap.size, 0, none⟩) 1 1)) (w.alloc (.cells (En.cells e s) 53))
theorem BuildEn.mk {e : En.E} {s : Value} (hv : v = .agg (En.cells e s)) (h : wpList Try.prog ops Q rest (a.put dst (.slice (some ⟨w.heap.size, 0, none⟩) 1 1)) (w.alloc (.cells (En.cells e s) 53))) : BuildEn ops Q rest dst v a w := ⟨e, s, hv, h⟩
theorem en_build (hgd : o.guard = none) (ho : o.op = .buildSlice 26 1 #[(0, x)]) (h : BuildEn ops Q rest o.dst (a.eval x) a w) : wpList Try.prog ops Q (o :: rest) a w := by
  obtain ⟨e, s, hv, h⟩ := h
  refine wpList_plain hgd fun _ hK => ?_
  have hr := en_slice e s w
  unfold Oper.wp execOp
  simp only [ho, List.map_toArray, List.map_cons, List.map_nil, hv, Sem.run_bind, hr, Result.andThen_ok, Sem.run_pure]
  exact hK _ _ h
end
theorem LiesS.one {W : World} {S : Nat} {e : En.E} {A : Option Addr} {c : Nat} (h : Box W S 53 (En.cells e (.slice A e.evs.length c))) (hL : Lies W W.heap.size 4 A e.evs.length (En.evCells e.evs)) (hf : e.evs.length ≤ maxLen) : LiesS W W.heap.size (some ⟨S, 0, none⟩) 1 [⟨e, A, c⟩] := by
  refine ⟨Lies.boxed (t := 53) ?_ rfl, fun q hq => ?_, fun q hq => ?_⟩
  · have e1 : (En.sCells [⟨e, A, c⟩]).toArray = En.cells e (.slice A e.evs.length c) := by unfold En.sCells; rw [List.flatMap_cons, List.flatMap_nil, List.append_nil]; exact En.S.cells_arr _
    rw [e1]; exact h
  · obtain rfl := List.mem_singleton.1 hq; exact hL
  · obtain rfl := List.mem_singleton.1 hq; exact hf
namespace En
def e7 : En.E := ⟨7, [], En.in0⟩
def e9 : En.E := ⟨7, [], En.upd En.in0 3 ⟨0, 0, 9⟩⟩
theorem in0_ty : ∀ i, i < 8 → Gm.tyIn (En.in0 i) := fun i _ => by unfold Gm.tyIn En.in0; dsimp only; omega
end En
theorem en_built7 (f : Int) : Try.prog.built 53 [(0, .int .i64 f)] = some (En.cells ⟨f, [], En.in0⟩ (.slice none 0 0)) := by kernel_rfl
end Go.Proofs.Ytgmlbimgcifenaa
namespace En
open Go
theorem put_len (e : E) : (put e).length = 6 + 5 * e.evs.length + (insBytes e.inp 8).length := by
  unfold put
  simp only [List.length_append, Im.bytesOf_len, evsBytes_len]
  omega
theorem ins_step (f : Nat → Gm.In) (k : Nat) : (insBytes f (k + 1)).length = (insBytes f k).length + (if zero (f k) = true then 0 else 3) := by
  show (insBytes f k ++ (if zero (f k) then [] else inBytes (f k))).length = _
  rw [List.length_append]
  split
  · simp
  · rw [inBytes_len]
theorem row1 {v : Ev} : Row (-1) [v] ↔ evOk v := ⟨fun h => h.1.1, fun h => ⟨⟨h, by have := (place_lt h).1; omega⟩, trivial⟩⟩
end En
namespace Go.Proofs.Ytgmlbimgcifenaa
open Go.RowKit Go.Shelf
end Go.Proofs.Ytgmlbimgcifenaa