/-
Several texts in one: Ib Ic Nl Im In Nw Nr Oc Rn Ya Fx Gf Dn Gm En.
-/
import Derived.Test.YtgmlbimgcifenaaVz2
set_option maxRecDepth 100000
set_option maxHeartbeats 8000000
set_option linter.unusedVariables false
set_option linter.unusedSimpArgs false
namespace Go.Proofs.Ytgmlbimgcifenaa
open Go.RowKit Go.Shelf
theorem append_runs' {P : Program} (w : World) {t ty e : TypeId} {i : TypeInfo} {z : Value} {size bytes : Nat} (ht : P.underlying t = some (.slice e)) (hi : P.info? e = some i) (hz : i.zero = some z) (hs : i.size = size) (hby : i.bytes = bytes) (hzs : z.cells.size = size) (hsz : 0 < size)
    {base n : Nat} {v : Value} {xs : List Value} (ho : w.ownsRow base e size v n xs) {ad : Addr} {m c : Nat} {news : List Value} (hl : Lies w w.heap.size size (some ad) m news) (hm : m ≠ 0) (h1 : ∀ u ∈ news, u.oneCell' = true) (h63 : n + m ≤ maxLen) (hb : (n + m) * bytes ≤ 140737488355328) (hbase : base ≤ w.heap.size) :
    ∃ A' c' w', (Builtin.append_ #[t, t] ty #[v, .slice (some ad) m c]).run P w = .ok (.slice A' (n + m) c') w' ∧ w'.ownsRow base e size (.slice A' (n + m) c') (n + m) (xs ++ news) ∧ w.grownBy w' v.ownBlock := by
  obtain ⟨v', w', hr, h2, h3, _, _⟩ := run_append_own_at (P := P) w base t ty e i z size bytes ht hi hz hs hby hzs hsz v n xs ho ad m c news hl.len (fun j u hu => hl.cell ad rfl hm j u hu) h1 h63 hb hbase
  obtain ⟨A', c', rfl⟩ := owned_slice h2
  exact ⟨A', c', w', hr, h2, h3⟩
theorem exec_append' {P : Program} {o : Oper} {a : Act} {x y : Operand} {ts : Array TypeId} {W W' : World} {v1 v2 r : Value} (ho : o.op = .call { callee := .builtin .append, args := #[x, y], argTypes := ts }) (hx : a.eval x = v1) (hy : a.eval y = v2) (hr : (Builtin.append_ ts o.type #[v1, v2]).run P W = .ok r W') :
    (execOp a.eval o).run P W = .ok (.value r) W' := by
  unfold execOp
  simp only [ho, resolve, invoke, builtin, Sem.run_bind, Sem.run_pure, Result.andThen_ok, List.map_toArray, List.map_cons, List.map_nil, hx, hy, hr]
theorem u8_info : (Try.prog.info? 5).map (fun i => (i.zero, i.size, i.bytes)) = some (some (.int .u8 0), 1, 1) := by kernel_rfl
theorem u8_parts : ∃ i, Try.prog.info? 5 = some i ∧ i.zero = some (.int .u8 0) ∧ i.size = 1 ∧ i.bytes = 1 := by
  have h := u8_info
  cases hq : Try.prog.info? 5 with
  | none => rw [hq] at h; cases h
  | some i =>
    rw [hq] at h
    simp only [Option.map_some, Option.some.injEq, Prod.mk.injEq] at h
    exact ⟨i, rfl, h.1, h.2.1, h.2.2⟩
theorem lies_byte (w : World) (x : Int) : Lies (w.alloc (.cells #[.int .u8 x] 5)) (w.alloc (.cells #[.int .u8 x] 5)).heap.size 1 (some ⟨w.heap.size, 0, none⟩) 1 (Im.u8s [x]) := by
  refine ⟨rfl, fun _ => ⟨_, rfl, by simp⟩, fun ad e _ j u hu => ?_⟩
  injection e with e
  subst e
  have hadd : (⟨w.heap.size, 0, none⟩ : Addr).add j = ⟨w.heap.size, j, none⟩ := by unfold Addr.add; split <;> simp_all
  rw [hadd, (Box.made w _ _).cell j, ← hu]
  simp [Im.u8s]
theorem write_any (size : Nat) (v : Int) (bs : List Int) (b Bb Bp : Nat) (w : World) (hs : size ≤ 8) (hv : 0 ≤ v ∧ v ≤ 18446744073709551615) (hbB : b ≤ Bb) (h : Wr b Bb Bp bs w) (hl : bs.length + size ≤ 65536) :
    Calls Try.prog 54 #[.int .i64 size, .int .u64 v, .pointer (some ⟨Bp, 0, none⟩)] w fun e w' => e = .returned (.int .u64 v) ∧ Wr b Bb Bp (bs ++ Im.bytesOf size v) w' ∧ Wrote b Bb w w' := by
  have HH := qh h
  clear h
  go_enter Try.func54, Try.ntmps54
  go_wp2
  go_loopw [8] (fun i wr => ∃ k : Nat, k ≤ size ∧ i = .int .i64 k ∧ Wr b Bb Bp (bs ++ Im.bytesOf k v) wr ∧ Wrote b Bb w wr) (fun i _ => size - (intOf i).toNat)
  case atStart => exact ⟨0, by omega, rfl, by simpa [Im.bytesOf] using HH.out, Wrote.refl hbB w⟩
  case round =>
    obtain ⟨k, hk, rfl, hI, hK⟩ := hrel
    by_cases hlt : k < size
    · have hk8 : (k : Int) < size := by omega
      obtain ⟨A, c, hB, hO⟩ := hI.var
      have hP := hI.ptr
      have hlen : (bs ++ Im.bytesOf k v).length = bs.length + k := by rw [List.length_append, Im.bytesOf_len]
      rw [hlen] at hB hO
      generalize hn : bs.length + k = n at *
      have HI := qh hI
      have HK := qh hK
      have HP := qh hP
      have HB := qh hB
      have HO := qh hO
      clear hI hP hB hO hK
      have h8 : IntKind.i64.wrap (8 * (k : Int)) = 8 * k := by rw [IntKind.wrap_i64]; omega
      have hq : 0 ≤ v / 2 ^ (8 * k) ∧ v / 2 ^ (8 * k) ≤ 18446744073709551615 := by
        have hp : (0 : Int) < 2 ^ (8 * k) := Int.pow_pos (by decide)
        exact ⟨Int.ediv_nonneg hv.1 (Int.le_of_lt hp), Int.le_trans (Int.ediv_le_self _ hv.1) hv.2⟩
      obtain ⟨x, hx⟩ : ∃ x, x = v / 2 ^ (8 * k) % 256 := ⟨_, rfl⟩
      have hsn : bs ++ Im.bytesOf (k + 1) v = (bs ++ Im.bytesOf k v) ++ [x] := by rw [hx]; simp [Im.bytesOf]
      have hxw : IntKind.u8.wrap (v / 2 ^ (8 * (k : Int)).toNat) = x := by rw [show (8 * (k : Int)).toNat = 8 * k by omega, IntKind.wrap_u8, hx]
      have HSN := qh hsn
      clear hsn hx
      go_upto_region 4 with fail
      refine Rx.wp_region_lex0 (by kernel_rfl) [] (by kernel_rfl) (· = wr.drew) (fun W => Box W Bp 68 #[.pointer (some ⟨Bb, 0, none⟩)] ∧ Box W Bb 27 #[.slice A n c]) (fun _ => True) rfl (fun W hW => ⟨hW ▸ ⟨HP.out.drew, HB.out.drew⟩, trivial⟩) ?_
      repeat (first
        | (apply Rx.lex_free rfl rfl; focus (intro _; go_simp; first | done | rfl))
        | (apply Rx.lex_look rfl rfl rfl rfl; focus (intro W hW; obtain ⟨hW1, hW2⟩ := hW; have c0 := Box.cell hW1; have c1 := Box.cell hW2; clear hW1 hW2; go_simp; first | done | rfl)))
      obtain ⟨i0, hi0, hz0, hz1, hz2⟩ := u8_parts
      have szb : b ≤ wr.heap.size := Nat.le_trans hbB (Nat.le_of_lt HB.out.lt)
      obtain ⟨A2, c2, w2, hrun, own2, hg2⟩ := append_runs' (P := Try.prog) _ (ty := 27) Try.underlying27 hi0 hz0 hz1 hz2 rfl (by decide) ((HO.out.drew).alloc (.cells #[.int .u8 x] 5)) (c := 1) (lies_byte wr.drew x) (by decide) (Im.u8s_one _) (by unfold maxLen; omega) (by omega) (by simp; omega)
      have B2 := qh (grown_box HB.out.drew HO.out.drew (by decide) hg2)
      have P2 := qh (grown_box HP.out.drew HO.out.drew (by decide) hg2)
      have K2 := qh (HK.out.drew.grown' HO.out.drew hg2)
      have OW := qh own2
      have neP : Bp ≠ Bb := HI.out.ne
      clear own2 hg2
      refine Rx.lex_make rfl (W' := wr.drew.alloc (.cells #[.int .u8 x] 5)) (v := .slice (some ⟨wr.drew.heap.size, 0, none⟩) 1 1) ?_ ⟨⟨HP.out.drew.alloc _, HB.out.drew.alloc _⟩, trivial⟩ ?_
      focus (go_simp; first | done | rfl)
      refine Rx.lex_make rfl (W' := w2) (v := .slice A2 (n + 1) c2) (exec_append' (x := .tmp 14) (y := .tmp 20) (v1 := .slice A n c) (v2 := .slice (some ⟨wr.drew.heap.size, 0, none⟩) 1 1) rfl (by go_simp) (by go_simp) hrun) ⟨⟨P2.out, B2.out⟩, trivial⟩ ?_
      repeat (first
        | (apply Rx.lex_free rfl rfl; focus (intro _; go_simp; first | done | rfl))
        | (apply Rx.lex_look rfl rfl rfl rfl; focus (intro W hW; obtain ⟨hW1, hW2⟩ := hW; have c0 := Box.cell hW1; have c1 := Box.cell hW2; clear hW1 hW2; go_simp; first | done | rfl)))
      refine Rx.lex_store rfl rfl (C' := (· = w2.setCell ⟨Bb, 0, none⟩ (.slice A2 (n + 1) c2))) (D' := fun _ => True) (fun W hW => ⟨_, ?_, rfl⟩) (fun _ _ => ⟨trivial, trivial⟩) ?_
      focus (subst hW; have f2 := B2.out.free; have k2 := B2.out.cell; go_simp; first | done | rfl)
      refine Rx.lex_end fun W2 hW2 => ?_
      have ne2 := B2.out.unowned OW.out (by decide)
      have H3 : Wr b Bb Bp (bs ++ Im.bytesOf (k + 1) v) W2 := by
        subst hW2
        have hlen3 : ((bs ++ Im.bytesOf k v) ++ [x]).length = n + 1 := by rw [List.length_append, hlen]; rfl
        rw [HSN.out]
        refine ⟨P2.out.far (by show Bp ≠ Bb; exact neP) _, A2, c2, ?_, ?_⟩
        · rw [hlen3]; exact B2.out.put 0 _
        · rw [hlen3, Im.u8s_append]; exact ownsRow_setCell_other (a := ⟨Bb, 0, none⟩) OW.out ne2 _
      have K3 : Wrote b Bb w W2 := by subst hW2; exact K2.out.put _ _
      have H4 := qh H3
      have K4 := qh K3
      clear H3 K3 hW2 hrun ne2 hlen
      go_wp2
      go_roundw
      case rel => exact ⟨k + 1, by omega, by go_num, H4.out, K4.out⟩
      case measure => simp [intOf]; omega
    · have hk8 : ¬ (k : Int) < size := by omega
      obtain rfl : k = size := by omega
      have HI := qh hI
      have HK := qh hK
      clear hI hK
      go_wp2
      go_ret
      exact ⟨rfl, HI.out, HK.out⟩
end Go.Proofs.Ytgmlbimgcifenaa
namespace Go.Proofs.Ytgmlbimgcifenaa
open Go.RowKit Go.Shelf
theorem setCell_noop {w : World} {P o : Nat} {t : TypeId} {cs : Array Value} {u : Value} (h : Box w P t cs) (ho : cs[o]? = some u) (k : Nat) : (w.setCell ⟨P, o, none⟩ u).heap[k]? = w.heap[k]? := by
  by_cases e : k = P
  · subst e
    rw [(h.put o u).is, h.is]
    congr 2
    obtain ⟨hlt, he⟩ := Array.getElem?_eq_some_iff.1 ho
    apply Array.ext
    · simp
    · intro i h1 h2
      rw [Array.getElem_setIfInBounds]
      split
      · rename_i e; subst e; exact he.symm
      · rfl
  · exact heap_setCell_other w ⟨P, o, none⟩ k u e
section
variable {b Bb Bp : Nat} {bs : List Int} {w0 w : World}
theorem Wrote.noop {P o : Nat} {t : TypeId} {cs : Array Value} {u : Value} (h : Wrote b Bb w0 w) (hB : Box w P t cs) (ho : cs[o]? = some u) : Wrote b Bb w0 (w.setCell ⟨P, o, none⟩ u) := by
  have hz := (Below.refl 0 w).setCell (p := ⟨P, o, none⟩) (Nat.zero_le _) u
  exact ⟨hz.os.trans h.os, hz.tape.trans h.tape, hz.output.trans h.output, Nat.le_trans h.size hz.size, h.low, fun k hk hc => (setCell_noop hB ho k).trans (h.block k hk hc)⟩
theorem Box.wrote' {g : Nat} {t : TypeId} {cs : Array Value} (h : Box w0 g t cs) (k : Wrote b Bb w0 w) (hv : ∃ A n c, Box w0 Bb 27 #[.slice A n c]) (h1 : t ≠ 27) (h2 : t ≠ 5) : Box w g t cs := by
  obtain ⟨A, n, c, hv⟩ := hv
  exact h.wrote k (Box.apart h hv h1) h2
theorem Wr.isvar (h : Wr b Bb Bp bs w) : ∃ A n c, Box w Bb 27 #[.slice A n c] := by
  obtain ⟨_, A, c, h, _⟩ := h
  exact ⟨A, _, c, h⟩
end
theorem layint_w (size : Nat) (z : Int) (hz : z = size) (x : Int) (P o : Nat) (t : TypeId) (cs : Array Value) (bs : List Int) (b Bb Bp : Nat) (w : World) (hs : size ≤ 8) (hx : -9223372036854775808 ≤ x ∧ x ≤ 9223372036854775807) (hbB : b ≤ Bb) (h : Wr b Bb Bp bs w) (hl : bs.length + size ≤ 65536) (hP : Box w P t cs) (ho : cs[o]? = some (.int .i64 x)) (h1 : t ≠ 27) (h2 : t ≠ 5) (h3 : t ≠ 68) :
    Calls Try.prog 51 #[.func (.func 54) #[] #[.pointer (some ⟨Bp, 0, none⟩)], .int .i64 z, .pointer (some ⟨P, o, none⟩)] w fun e w' => e = .returned (.tuple #[]) ∧ Wr b Bb Bp (bs ++ Im.bytesOf size (IntKind.u64.wrap x)) w' ∧ Wrote b Bb w w' := by
  subst hz
  have hwb : IntKind.i64.wrap (IntKind.u64.wrap x) = x := by rw [IntKind.wrap_i64, IntKind.wrap_u64]; omega
  have hvr : 0 ≤ IntKind.u64.wrap x ∧ IntKind.u64.wrap x ≤ 18446744073709551615 := by rw [IntKind.wrap_u64]; omega
  obtain ⟨v, hv⟩ : ∃ v, v = IntKind.u64.wrap x := ⟨_, rfl⟩
  rw [← hv] at hwb hvr ⊢
  have cw := qh (write_any size v bs b Bb Bp w hs hvr hbB h hl)
  have HH := qh h
  have HP := qh hP
  have hvv : IntKind.u64.wrap x = v := hv.symm
  clear hv
  have k0 := hP.cell o
  rw [ho] at k0
  have HO := qh ho
  clear h hP ho
  go_enter Try.func51, Try.ntmps51
  go_wp2_with (go_at_call 54; ((with_reducible refine (cw.out).mono ?_); rintro e w1 ⟨rfl, hI1, hK1⟩; have P1 := qh (HP.out.wrote' hK1 HH.out.isvar h1 h2); have I1 := qh hI1; have K1 := qh hK1; have k1 := P1.out.cell o; rw [HO.out] at k1; have f1 := P1.out.free o; clear hI1 hK1 k0))
  go_end0
  exact ⟨rfl, I1.out.off (p := ⟨P, o, none⟩) P1.out h3 h1 h2 _, K1.out.noop P1.out HO.out⟩
theorem layu64_w (size : Nat) (z : Int) (hz : z = size) (x : Int) (P o : Nat) (t : TypeId) (cs : Array Value) (bs : List Int) (b Bb Bp : Nat) (w : World) (hs : size ≤ 8) (hx : 0 ≤ x ∧ x ≤ 18446744073709551615) (hbB : b ≤ Bb) (h : Wr b Bb Bp bs w) (hl : bs.length + size ≤ 65536) (hP : Box w P t cs) (ho : cs[o]? = some (.int .u64 x)) (h1 : t ≠ 27) (h2 : t ≠ 5) (h3 : t ≠ 68) :
    Calls Try.prog 75 #[.func (.func 54) #[] #[.pointer (some ⟨Bp, 0, none⟩)], .int .i64 z, .pointer (some ⟨P, o, none⟩)] w fun e w' => e = .returned (.tuple #[]) ∧ Wr b Bb Bp (bs ++ Im.bytesOf size (x)) w' ∧ Wrote b Bb w w' := by
  subst hz
  have hvr := hx
  obtain ⟨v, hv⟩ : ∃ v, v = x := ⟨_, rfl⟩
  rw [← hv] at hvr ⊢
  have cw := qh (write_any size v bs b Bb Bp w hs hvr hbB h hl)
  have HH := qh h
  have HP := qh hP
  subst hv
  have k0 := hP.cell o
  rw [ho] at k0
  have HO := qh ho
  clear h hP ho
  go_enter Try.func75, Try.ntmps75
  go_wp2_with (go_at_call 54; ((with_reducible refine (cw.out).mono ?_); rintro e w1 ⟨rfl, hI1, hK1⟩; have P1 := qh (HP.out.wrote' hK1 HH.out.isvar h1 h2); have I1 := qh hI1; have K1 := qh hK1; have k1 := P1.out.cell o; rw [HO.out] at k1; have f1 := P1.out.free o; clear hI1 hK1 k0))
  go_end0
  exact ⟨rfl, I1.out.off (p := ⟨P, o, none⟩) P1.out h3 h1 h2 _, K1.out.noop P1.out HO.out⟩
end Go.Proofs.Ytgmlbimgcifenaa
namespace Go.Proofs.Ytgmlbimgcifenaa
open Go.RowKit Go.Shelf
theorem need_yes (s : ByteArray) (w : World) : Calls Try.prog 30 #[.bool true, .string s] w fun e w' => e = .returned (.tuple #[]) ∧ w = w' := by
  go_enter Try.func30, Try.ntmps30
  go_wp2
  go_end0
  exact ⟨rfl, rfl⟩
theorem need_no (s : ByteArray) (w : World) : Calls Try.prog 30 #[.bool false, .string s] w fun e w' => e = .panicked [{ v := .iface 9 (.string s), recovered := false }] ∧ w = w' := by
  go_enter Try.func30, Try.ntmps30
  go_wp2
  first | exact ⟨rfl, rfl, rfl⟩ | exact ⟨rfl, rfl⟩
theorem Wr.nil {b Bb Bp : Nat} {W : World} (h1 : Box W Bp 68 #[.pointer (some ⟨Bb, 0, none⟩)]) (h2 : Box W Bb 27 #[.slice none 0 0]) : Wr b Bb Bp [] W :=
  ⟨h1, none, 0, h2, World.ownsRow_nil _ _ _ _⟩
theorem writer_any (p : Addr) (w : World) : Calls Try.prog 32 #[.pointer (some p)] w fun e w' => e = .returned (.func (.func 54) #[] #[.pointer (some ⟨w.heap.size, 0, none⟩)]) ∧ w' = w.alloc (.cells #[.pointer (some p)] 68) := by
  have hmf : ∀ (fn : Fn) (first cap : Array Value) (w : World), (Instr.makeFunc fn first cap).run Try.prog w = .ok (.func fn first cap) w := fun _ _ _ _ => rfl
  go_enter Try.func32, Try.ntmps32
  go_wp2
  go_ret
  exact ⟨rfl, rfl⟩
theorem reader_any (p : Addr) (w : World) : Calls Try.prog 41 #[.pointer (some p)] w fun e w' => e = .returned (.func (.func 60) #[] #[.pointer (some ⟨w.heap.size, 0, none⟩)]) ∧ w' = w.alloc (.cells #[.pointer (some p)] 68) := by
  have hmf : ∀ (fn : Fn) (first cap : Array Value) (w : World), (Instr.makeFunc fn first cap).run Try.prog w = .ok (.func fn first cap) w := fun _ _ _ _ => rfl
  go_enter Try.func41, Try.ntmps41
  go_wp2
  go_ret
  exact ⟨rfl, rfl⟩
def Kb (B : Nat) (w w' : World) : Prop := ∀ g t cs, Box w g t cs → g ≠ B → t ≠ 27 → t ≠ 5 → Box w' g t cs
section
variable {B b Bb Bp : Nat} {bs : List Int} {w w' w'' : World}
theorem Kb.refl (w : World) : Kb B w w := fun _ _ _ h _ _ _ => h
theorem Kb.trans (h : Kb B w w') (k : Kb B w' w'') : Kb B w w'' := fun g t cs hg hne h1 h2 => k g t cs (h g t cs hg hne h1 h2) hne h1 h2
theorem Kb.call (h : Kb B w w') (hb : Below w'.heap.size w' w'') : Kb B w w'' := fun g t cs hg hne h1 h2 => (h g t cs hg hne h1 h2).below hb (h g t cs hg hne h1 h2).lt
theorem Kb.wrote (h : Kb B w w') (hW : Wrote b Bb w' w'') (hv : ∃ A n c, Box w' Bb 27 #[.slice A n c]) : Kb B w w'' := fun g t cs hg hne h1 h2 => (h g t cs hg hne h1 h2).wrote' hW hv h1 h2
theorem Kb.put (h : Kb B w w') (i : Nat) (u : Value) : Kb B w (w'.setCell ⟨B, i, none⟩ u) := fun g t cs hg hne h1 h2 => (h g t cs hg hne h1 h2).far (p := ⟨B, i, none⟩) hne u
theorem Kb.row (h : Kb B w w') {S : Nat} (hS : w.heap.size ≤ S) (cs' : Array Value) : Kb B w (w'.setRow S cs') := fun g t cs hg hne h1 h2 => (h g t cs hg hne h1 h2).row_far (by have := hg.lt; omega) cs'
end
end Go.Proofs.Ytgmlbimgcifenaa
namespace Im
open Go
def val (f : Nat → Int) : Nat → Int
  | 0 => 0
  | k + 1 => val f k + f k * 2 ^ (8 * k)
theorem val_lt (f : Nat → Int) (h : ∀ k, 0 ≤ f k ∧ f k ≤ 255) : ∀ k, 0 ≤ val f k ∧ val f k < 2 ^ (8 * k)
  | 0 => by simp [val]
  | k + 1 => by
    have h1 := val_lt f h k
    have h2 := h k
    have hp : (0 : Int) < 2 ^ (8 * k) := Int.pow_pos (by decide)
    have e : (2 : Int) ^ (8 * (k + 1)) = 256 * 2 ^ (8 * k) := by rw [show 8 * (k + 1) = 8 * k + 8 by omega, Int.pow_add]; omega
    unfold val
    rw [e]
    generalize (2 : Int) ^ (8 * k) = p at *
    generalize f k = x at *
    have a1 : 0 ≤ x * p := Int.mul_nonneg h2.1 (Int.le_of_lt hp)
    have a2 : x * p ≤ 255 * p := Int.mul_le_mul_of_nonneg_right h2.2 (Int.le_of_lt hp)
    omega
theorem or_shift (v x : Int) (k : Nat) (hk : k < 8) (hv : 0 ≤ v ∧ v < 2 ^ (8 * k)) (hx : 0 ≤ x ∧ x ≤ 255) : bits .or .u64 v (x * 2 ^ (8 * k)) = v + x * 2 ^ (8 * k) := by
  obtain ⟨V, rfl⟩ := Int.eq_ofNat_of_zero_le hv.1
  obtain ⟨X, rfl⟩ := Int.eq_ofNat_of_zero_le hx.1
  have hp : 2 ^ (8 * k) ≤ 2 ^ 56 := Nat.pow_le_pow_right (by decide) (by omega)
  have hV : V < 2 ^ (8 * k) := by exact_mod_cast hv.2
  have e : (X : Int) * 2 ^ (8 * k) = ((2 ^ (8 * k) * X : Nat) : Int) := by push_cast; rw [Int.mul_comm]
  have hX : 2 ^ (8 * k) * X ≤ 2 ^ (8 * k) * 255 := Nat.mul_le_mul_left _ (by omega)
  rw [e, u64_or_nat _ _ (by omega) (by omega), Nat.or_comm, ← Nat.two_pow_add_eq_or_of_lt hV]
  push_cast
  omega
end Im
namespace Rx
open Go
section
variable {P : Program} {X : Thr} {st : List Nat} {E C D : World → Prop} {Q : Act → (World → Prop) → Prop} {o : Oper} {rest : List Oper} {n : Nat} {a : Act}
theorem lex_read (hs : isStore o = false) (hf : isFree o = false) (hl : isLook o = false) {v : Value} (hrun : ∀ w, C w → (execOp a.eval o).run P w = .ok (.value v) w) (h : wpLex P X st E Q rest (n + 1) (a.put o.dst v) C D) : wpLex P X st E Q (o :: rest) n a C D := by
  unfold wpLex
  rw [if_neg (by simp [hs]), if_neg (by simp [hf]), if_neg (by simp [hl])]
  exact ⟨v, fun w hw => by unfold Gives; rw [hrun w hw]; exact ⟨rfl, hw⟩, h⟩
end
end Rx
namespace Go.Proofs.Ytgmlbimgcifenaa
open Go.RowKit Go.Shelf
structure Rd (b Bb Bp : Nat) (bs : List Int) (W : World) : Prop where
  ptr : Box W Bp 68 #[.pointer (some ⟨Bb, 0, none⟩)]
  var : ∃ A c, Box W Bb 27 #[.slice A bs.length c] ∧ bs.length ≤ c ∧ Lies W b 1 A bs.length (Im.u8s bs)
section
variable {b Bb Bp : Nat} {bs : List Int} {W W' : World}
theorem Rd.call (h : Rd b Bb Bp bs W) (hb : Below W.heap.size W W') (hs : b ≤ W.heap.size) : Rd b Bb Bp bs W' := by
  obtain ⟨h1, A, c, h2, hc, h3⟩ := h
  exact ⟨h1.below hb h1.lt, A, c, h2.below hb h2.lt, hc, h3.below (hb.mono hs)⟩
theorem Rd.off (h : Rd b Bb Bp bs W) {p : Addr} {t : TypeId} {cs : Array Value} (hp : Box W p.block t cs) (h1 : t ≠ 68) (h2 : t ≠ 27) (hb : b ≤ p.block) (u : Value) : Rd b Bb Bp bs (W.setCell p u) := by
  obtain ⟨k1, A, c, k2, kc, k3⟩ := h
  exact ⟨k1.far (fun e => Box.apart k1 hp (fun e' => h1 e'.symm) e) u, A, c, k2.far (fun e => Box.apart k2 hp (fun e' => h2 e'.symm) e) u, kc, k3.stays fun i hi => heap_setCell_other W p i u (by omega)⟩
theorem Rd.offRow (h : Rd b Bb Bp bs W) {p : Nat} {t : TypeId} {cs : Array Value} (hp : Box W p t cs) (h1 : t ≠ 68) (h2 : t ≠ 27) (hb : b ≤ p) (cs' : Array Value) : Rd b Bb Bp bs (W.setRow p cs') := by
  obtain ⟨k1, A, c, k2, kc, k3⟩ := h
  exact ⟨k1.row_far (fun e => Box.apart k1 hp (fun e' => h1 e'.symm) e) cs', A, c, k2.row_far (fun e => Box.apart k2 hp (fun e' => h2 e'.symm) e) cs', kc, k3.stays fun i hi => setRow_other W p i cs' (by omega)⟩
theorem Rd.isvar (h : Rd b Bb Bp bs W) : ∃ A n c, Box W Bb 27 #[.slice A n c] := by
  obtain ⟨_, A, c, k2, _⟩ := h
  exact ⟨A, _, c, k2⟩
theorem Rd.ne (h : Rd b Bb Bp bs W) : Bp ≠ Bb := by
  obtain ⟨h1, A, c, h2, _⟩ := h
  exact Box.apart h1 h2 (by decide)
end
theorem Lies.rest {w : World} {b k n c : Nat} {ad : Addr} {xs rest : List Int} (h : Lies w b 1 (some ad) n (Im.u8s (xs ++ rest))) (m : Nat) (hx : xs.length = k) (hc : n ≤ c) (hn : n = k + m) : Lies w b 1 (if c = k then some ad else some (ad.add k)) m (Im.u8s rest) := by
  have hl := h.len
  rw [Im.u8s_len, List.length_append, hx] at hl
  have hm : rest.length = m := by omega
  refine ⟨by rw [Im.u8s_len]; omega, fun h0 => ?_, fun ad' e h0 j u hj => ?_⟩
  · rw [if_neg (by omega)]
    obtain ⟨ad2, e2, hb⟩ := h.start (by omega)
    injection e2 with e2
    subst e2
    exact ⟨_, rfl, by rw [add_block]; exact hb⟩
  · rw [if_neg (by omega)] at e
    injection e with e
    subst e
    have := h.cell ad rfl (by omega) (k + j) u (by
      rw [Im.u8s_append, List.getElem?_append_right (by rw [Im.u8s_len]; omega), Im.u8s_len, hx, Nat.add_sub_cancel_left]
      exact hj)
    rw [← this]
    congr 1
    unfold Addr.add
    by_cases hk0 : k = 0 <;> by_cases hj0 : j = 0 <;> simp [hk0, hj0, Nat.add_assoc]
theorem read_any (size : Nat) (z : Int) (hz : z = size) (v0 : Int) (f : Nat → Int) (xs rest : List Int) (b Bb Bp : Nat) (w : World) (hs : 1 ≤ size ∧ size ≤ 8) (hx : xs.length = size) (hf : ∀ k (h : k < xs.length), xs[k] = f k) (hf2 : ∀ k, 0 ≤ f k ∧ f k ≤ 255) (hbB : b ≤ Bb) (h : Rd b Bb Bp (xs ++ rest) w) :
    Calls Try.prog 60 #[.int .i64 z, .int .u64 v0, .pointer (some ⟨Bp, 0, none⟩)] w fun e w' => e = .returned (.int .u64 (Im.val f size)) ∧ Rd b Bb Bp rest w' ∧ Wrote b Bb w w' := by
  subst hz
  obtain ⟨hP, A, c, hB, hc, hL⟩ := h
  have hlen : (xs ++ rest).length = size + rest.length := by rw [List.length_append, hx]
  rw [hlen] at hB hc hL
  obtain ⟨n, hn⟩ : ∃ n, n = size + rest.length := ⟨_, rfl⟩
  rw [← hn] at hB hc hL
  obtain ⟨ad, rfl, had⟩ := hL.start (by omega)
  have hcell : ∀ k, k < size → w.cell? (ad.add k) = some (.int .u8 (f k)) := fun k hk => hL.cell ad rfl (by omega) k _ (by
    unfold Im.u8s
    rw [List.getElem?_map, List.getElem?_append_left (by omega), List.getElem?_eq_getElem (by omega), hf k (by omega)]; rfl)
  have hsn : (size : Int) ≤ n := by omega
  have hs1 : ∀ W, (Instr.slice 27 (.slice (some ad) n c) none (some (.int .i64 size)) none).run Try.prog W = .ok (.slice (some ad) size c) W := fun W => by
    have h0 : (0 : Int) ≤ size := by omega
    have h2 : (size : Int) ≤ c := by omega
    have hc0 : ¬ c = 0 := by omega
    go_simp
  have hs2 : ∀ W, (Instr.slice 27 (.slice (some ad) n c) (some (.int .i64 size)) none none).run Try.prog W = .ok (.slice (if c = size then some ad else some (ad.add size)) rest.length (c - size)) W := fun W => by
    have h0 : (0 : Int) ≤ size := by omega
    have h2 : (size : Int) ≤ n := by omega
    have hr : n - size = rest.length := by omega
    clear hn hlen
    go_simp
  obtain ⟨A2, hA2⟩ : ∃ A2, A2 = if c = size then some ad else some (ad.add size) := ⟨_, rfl⟩
  rw [← hA2] at hs2
  have HA := qh hA2
  clear hA2
  have HP := qh hP
  have HB := qh hB
  have HL := qh hL
  have HC := qh hc
  have HF := qh hf2
  have HV := qh (Im.val_lt f hf2)
  have b0 := hB.cell 0
  have p0 := hP.cell 0
  have HN := qh hn
  have HX := qh hx
  have HE := qh (show Bp ≠ Bb from Box.apart hP hB (by decide))
  have HS := qh hs
  clear hP hB hL hc hn hs hx hf hf2 hlen
  go_enter Try.func60, Try.ntmps60
  go_wp2_with (first | (go_at_call 30; ((with_reducible refine (need_yes _ _).mono ?_); rintro e w2 ⟨rfl, rfl⟩)))
  go_loopw [6, 22] (fun v i wr => ∃ k : Nat, k ≤ size ∧ i = .int .i64 k ∧ v = .int .u64 (Im.val f k) ∧ w = wr) (fun _ i _ => size - (intOf i).toNat)
  case atStart => exact ⟨0, by omega, rfl, rfl, rfl⟩
  case round =>
    obtain ⟨k, hk, rfl, rfl, rfl⟩ := hrel
    by_cases hlt : k < size
    · have hk8 : (k : Int) < size := by omega
      have hck := hcell k hlt
      have h8 : IntKind.i64.wrap (8 * (k : Int)) = 8 * k := by have := HS.out.2; rw [IntKind.wrap_i64]; omega
      have hp0 := HV.out k
      have hfk := HF.out k
      have hsz := HS.out.2
      have hpk : (0 : Int) < 2 ^ (8 * k) := Int.pow_pos (by decide)
      have hwr : IntKind.u64.wrap (f k * 2 ^ (8 * k)) = f k * 2 ^ (8 * k) := by
        have hp : (2 : Nat) ^ (8 * k) ≤ 2 ^ 56 := Nat.pow_le_pow_right (by decide) (by omega)
        have hp' : (2 : Int) ^ (8 * k) ≤ 2 ^ 56 := by exact_mod_cast hp
        have a1 : 0 ≤ f k * 2 ^ (8 * k) := Int.mul_nonneg hfk.1 (Int.le_of_lt hpk)
        have a2 : f k * 2 ^ (8 * k) ≤ 255 * 2 ^ (8 * k) := Int.mul_le_mul_of_nonneg_right hfk.2 (Int.le_of_lt hpk)
        rw [IntKind.wrap_u64]
        generalize f k * 2 ^ (8 * k) = y at *
        omega
      have hor := Im.or_shift (Im.val f k) (f k) k (by omega) hp0 hfk
      have hnext : bits .or .u64 (Im.val f k) (IntKind.u64.wrap (f k * 2 ^ (8 * k))) = Im.val f (k + 1) := by rw [hwr, hor]; rfl
      have HW := qh hnext
      obtain ⟨vk, hvk⟩ : ∃ vk, vk = Im.val f k := ⟨_, rfl⟩
      rw [← hvk] at HW
      rw [← hvk]
      clear hvk hnext hp0 hpk hor hwr
      go_wp2
      go_roundw
      case rel => exact ⟨k + 1, by omega, by go_num, by rw [HW.out], by first | rfl | trivial⟩
      case measure => simp [intOf]; omega
    · have hk8 : ¬ (k : Int) < size := by omega
      obtain rfl : k = size := by omega
      go_upto_region 8 with fail
      refine Rx.wp_region_lex0 (by kernel_rfl) [] (by kernel_rfl) (· = w.drew) (fun W => Box W Bp 68 #[.pointer (some ⟨Bb, 0, none⟩)] ∧ Box W Bb 27 #[.slice (some ad) n c]) (fun _ => True) rfl (fun W hW => ⟨hW ▸ ⟨HP.out.drew, HB.out.drew⟩, trivial⟩) ?_
      repeat (first
        | (apply Rx.lex_free rfl rfl; focus (intro _; go_simp; first | done | rfl))
        | (apply Rx.lex_look rfl rfl rfl rfl; focus (intro W hW; obtain ⟨hW1, hW2⟩ := hW; have c0 := Box.cell hW1; have c1 := Box.cell hW2; clear hW1 hW2; go_simp; first | done | rfl)))
      refine Rx.lex_read rfl rfl rfl (v := .slice A2 rest.length (c - k)) (fun W hW => ?_) ?_
      focus (go_simp; first | done | rfl)
      repeat (first
        | (apply Rx.lex_free rfl rfl; focus (intro _; go_simp; first | done | rfl))
        | (apply Rx.lex_look rfl rfl rfl rfl; focus (intro W hW; obtain ⟨hW1, hW2⟩ := hW; have c0 := Box.cell hW1; have c1 := Box.cell hW2; clear hW1 hW2; go_simp; first | done | rfl)))
      refine Rx.lex_store rfl rfl (C' := (· = w.drew.setCell ⟨Bb, 0, none⟩ (.slice A2 rest.length (c - k)))) (D' := fun _ => True) (fun W hW => ⟨_, ?_, rfl⟩) (fun _ _ => ⟨trivial, trivial⟩) ?_
      focus (subst hW; have f2 := HB.out.drew.free; have k2 := HB.out.drew.cell; go_simp; first | done | rfl)
      refine Rx.lex_end fun W2 hW2 => ?_
      have HH : Rd b Bb Bp rest W2 := by
        subst hW2
        refine ⟨HP.out.drew.far (p := ⟨Bb, 0, none⟩) HE.out _, _, c - k, HB.out.drew.put 0 _, by have := HN.out; have := HC.out; omega, ?_⟩
        rw [HA.out]
        refine (HL.out.rest rest.length (by rw [HX.out]) HC.out HN.out).stays fun i hi => ?_
        exact heap_setCell_other w.drew ⟨Bb, 0, none⟩ i _ (by show i ≠ Bb; omega)
      have HK : Wrote b Bb w W2 := by subst hW2; exact (Wrote.refl hbB w).drew.put 0 _
      have H2 := qh HH
      have K2 := qh HK
      clear HH HK hW2
      go_wp2
      go_ret
      exact ⟨rfl, H2.out, K2.out⟩
end Go.Proofs.Ytgmlbimgcifenaa
namespace Im
open Go
def byte (v : Int) (k : Nat) : Int := v / 2 ^ (8 * k) % 256
theorem byte_lt (v : Int) (k : Nat) : 0 ≤ byte v k ∧ byte v k ≤ 255 := by unfold byte; omega
theorem bytesOf_at? : ∀ (n : Nat) (v : Int) (k : Nat), k < n → (bytesOf n v)[k]? = some (byte v k)
  | 0, v, k, h => by omega
  | n + 1, v, k, h => by
    show (bytesOf n v ++ [v / 2 ^ (8 * n) % 256])[k]? = _
    by_cases hk : k < n
    · rw [List.getElem?_append_left (by rw [bytesOf_len]; exact hk)]
      exact bytesOf_at? n v k hk
    · obtain rfl : k = n := by omega
      rw [List.getElem?_append_right (by rw [bytesOf_len]; omega)]
      simp [bytesOf_len, byte]
theorem bytesOf_at (n : Nat) (v : Int) (k : Nat) (h : k < (bytesOf n v).length) : (bytesOf n v)[k] = byte v k := by
  have := bytesOf_at? n v k (by rw [bytesOf_len] at h; exact h)
  rw [List.getElem?_eq_getElem h] at this
  injection this
theorem val_byte (v : Int) : ∀ n, val (byte v) n = v % 2 ^ (8 * n)
  | 0 => by simp [val]
  | n + 1 => by
    unfold val
    rw [val_byte v n]
    have hp : (0 : Int) < 2 ^ (8 * n) := Int.pow_pos (by decide)
    have e : (2 : Int) ^ (8 * (n + 1)) = 2 ^ (8 * n) * 256 := by rw [show 8 * (n + 1) = 8 * n + 8 by omega, Int.pow_add]; rfl
    unfold byte
    rw [e]
    generalize (2 : Int) ^ (8 * n) = p at *
    have h3 : v / (p * 256) = v / p / 256 := by rw [Int.ediv_ediv_of_nonneg (by omega)]
    rw [Int.emod_def v (p * 256), h3, Int.emod_def v p]
    have h2 : v / p = 256 * (v / p / 256) + v / p % 256 := (Int.mul_ediv_add_emod (v / p) 256).symm
    generalize v / p / 256 = d at *
    generalize v / p % 256 = r at *
    rw [h2]
    grind
def Patch (cs : Array Value) (o : Nat) (l : List Value) (cs' : Array Value) : Prop := ∀ j, cs'[j]? = if o ≤ j ∧ j < o + l.length then l[j - o]? else cs[j]?
theorem Patch.nil (cs : Array Value) (o : Nat) : Patch cs o [] cs := fun j => by rw [if_neg (by simp)]
theorem Patch.one {cs : Array Value} {o : Nat} {u : Value} (v : Value) (h : cs[o]? = some u) : Patch cs o [v] (cs.setIfInBounds o v) := fun j => by
  have ho : o < cs.size := (Array.getElem?_eq_some_iff.1 h).1
  by_cases e : o = j
  · subst e
    simp [ho]
  · rw [if_neg (by simp; omega), Array.getElem?_setIfInBounds_ne e]
theorem Patch.trans {cs cs' cs'' : Array Value} {o p : Nat} {l m : List Value} (h : Patch cs o l cs') (k : Patch cs' p m cs'') (hp : p = o + l.length) : Patch cs o (l ++ m) cs'' := fun j => by
  rw [k j, h j, List.length_append]
  subst hp
  by_cases h1 : o ≤ j ∧ j < o + l.length
  · rw [if_pos h1, if_neg (by omega), if_pos (by omega), List.getElem?_append_left (by omega)]
  · by_cases h2 : o + l.length ≤ j ∧ j < o + l.length + m.length
    · rw [if_pos h2, if_pos (by omega), List.getElem?_append_right (by omega)]
      congr 1; omega
    · rw [if_neg h2, if_neg h1, if_neg (by omega)]
theorem Patch.cell {cs cs' : Array Value} {o : Nat} {l : List Value} (h : Patch cs o l cs') {j : Nat} (hj : j < o ∨ o + l.length ≤ j) : cs'[j]? = cs[j]? := by rw [h j, if_neg (by omega)]
theorem Patch.at {cs cs' : Array Value} {o : Nat} {l : List Value} (h : Patch cs o l cs') (i : Nat) (hi : i < l.length) : cs'[o + i]? = l[i]? := by rw [h (o + i), if_pos (by omega), Nat.add_sub_cancel_left]
theorem Patch.more {cs cs' : Array Value} {o : Nat} {l : List Value} (h : Patch cs o l cs') (m : List Value) (hm : ∀ i, i < m.length → cs[o + l.length + i]? = m[i]?) : Patch cs o (l ++ m) cs' := fun j => by
  rw [h j, List.length_append]
  by_cases h1 : o ≤ j ∧ j < o + l.length
  · rw [if_pos h1, if_pos (by omega), List.getElem?_append_left (by omega)]
  · rw [if_neg h1]
    by_cases h2 : o + l.length ≤ j ∧ j < o + l.length + m.length
    · rw [if_pos (by omega), List.getElem?_append_right (by omega), ← hm _ (by omega)]
      congr 1; omega
    · rw [if_neg (by omega)]
end Im
namespace Go.Proofs.Ytgmlbimgcifenaa
open Go.RowKit Go.Shelf
theorem read_num (size : Nat) (z : Int) (hz : z = size) (v0 v : Int) (rest : List Int) (b Bb Bp : Nat) (w : World) (hs : 1 ≤ size ∧ size ≤ 8) (hbB : b ≤ Bb) (h : Rd b Bb Bp (Im.bytesOf size v ++ rest) w) :
    Calls Try.prog 60 #[.int .i64 z, .int .u64 v0, .pointer (some ⟨Bp, 0, none⟩)] w fun e w' => e = .returned (.int .u64 (v % 2 ^ (8 * size))) ∧ Rd b Bb Bp rest w' ∧ Wrote b Bb w w' := by
  rw [← Im.val_byte]
  exact read_any size z hz v0 (Im.byte v) (Im.bytesOf size v) rest b Bb Bp w hs (Im.bytesOf_len _ _) (fun k hk => Im.bytesOf_at _ _ _ hk) (Im.byte_lt v) hbB h
structure Rk (b Bb P : Nat) (w w' : World) : Prop where
  below : Below b w w'
  kb : Kb P w w'
section
variable {b Bb P L : Nat} {w w0 w1 : World}
theorem Kb.fresh (h : Kb P w w0) (k : Kb L w0 w1) (hL : w.heap.size ≤ L) : Kb P w w1 := fun g t cs hg hne h1 h2 => k g t cs (h g t cs hg hne h1 h2) (by have := hg.lt; omega) h1 h2
theorem Rk.trans (h : Rk b Bb P w w0) (k : Rk b Bb P w0 w1) : Rk b Bb P w w1 := ⟨h.below.trans k.below, h.kb.trans k.kb⟩
theorem Rk.local (h : Rk b Bb P w w0) (k : Rk b Bb L w0 w1) (hL : w.heap.size ≤ L) : Rk b Bb P w w1 := ⟨h.below.trans k.below, h.kb.fresh k.kb hL⟩
theorem Rk.alloc (hb : b ≤ w.heap.size) (o : Obj) : Rk b Bb P w (w.alloc o) := ⟨(one_below w o).mono hb, (Kb.refl w).call (one_below w o)⟩
theorem Rk.put (h : Rk b Bb P w w0) (hb : b ≤ P) (i : Nat) (u : Value) : Rk b Bb P w (w0.setCell ⟨P, i, none⟩ u) := ⟨h.below.setCell hb _, h.kb.put i u⟩
theorem Rk.refl (b Bb P : Nat) (w : World) : Rk b Bb P w w := ⟨Below.refl _ _, Kb.refl w⟩
end
end Go.Proofs.Ytgmlbimgcifenaa
namespace Im
open Go
theorem wrap_i8 (n : Int) : IntKind.i8.wrap n = (n + 128) % 256 - 128 := by
  simp [IntKind.wrap, IntKind.bits, IntKind.signed]
  try omega
end Im
namespace Go.Proofs.Ytgmlbimgcifenaa
open Go.RowKit Go.Shelf
theorem layi8_w (size : Nat) (z : Int) (hz : z = size) (x : Int) (P o : Nat) (t : TypeId) (cs : Array Value) (bs : List Int) (b Bb Bp : Nat) (w : World) (hs : size ≤ 8) (hx : -128 ≤ x ∧ x ≤ 127) (hbB : b ≤ Bb) (h : Wr b Bb Bp bs w) (hl : bs.length + size ≤ 65536) (hP : Box w P t cs) (ho : cs[o]? = some (.int .i8 x)) (h1 : t ≠ 27) (h2 : t ≠ 5) (h3 : t ≠ 68) :
    Calls Try.prog 86 #[.func (.func 54) #[] #[.pointer (some ⟨Bp, 0, none⟩)], .int .i64 z, .pointer (some ⟨P, o, none⟩)] w fun e w' => e = .returned (.tuple #[]) ∧ Wr b Bb Bp (bs ++ Im.bytesOf size (IntKind.u64.wrap x)) w' ∧ Wrote b Bb w w' := by
  subst hz
  have hwb : IntKind.i8.wrap (IntKind.u64.wrap x) = x := by rw [Im.wrap_i8, IntKind.wrap_u64]; omega
  have hvr : 0 ≤ IntKind.u64.wrap x ∧ IntKind.u64.wrap x ≤ 18446744073709551615 := by rw [IntKind.wrap_u64]; omega
  obtain ⟨v, hv⟩ : ∃ v, v = IntKind.u64.wrap x := ⟨_, rfl⟩
  rw [← hv] at hwb hvr ⊢
  have cw := qh (write_any size v bs b Bb Bp w hs hvr hbB h hl)
  have HH := qh h
  have HP := qh hP
  have hvv : IntKind.u64.wrap x = v := hv.symm
  clear hv
  have k0 := hP.cell o
  rw [ho] at k0
  have HO := qh ho
  clear h hP ho
  go_enter Try.func86, Try.ntmps86
  go_wp2_with (go_at_call 54; ((with_reducible refine (cw.out).mono ?_); rintro e w1 ⟨rfl, hI1, hK1⟩; have P1 := qh (HP.out.wrote' hK1 HH.out.isvar h1 h2); have I1 := qh hI1; have K1 := qh hK1; have k1 := P1.out.cell o; rw [HO.out] at k1; have f1 := P1.out.free o; clear hI1 hK1 k0))
  go_end0
  exact ⟨rfl, I1.out.off (p := ⟨P, o, none⟩) P1.out h3 h1 h2 _, K1.out.noop P1.out HO.out⟩
theorem layu8_w (size : Nat) (z : Int) (hz : z = size) (x : Int) (P o : Nat) (t : TypeId) (cs : Array Value) (bs : List Int) (b Bb Bp : Nat) (w : World) (hs : size ≤ 8) (hx : 0 ≤ x ∧ x ≤ 255) (hbB : b ≤ Bb) (h : Wr b Bb Bp bs w) (hl : bs.length + size ≤ 65536) (hP : Box w P t cs) (ho : cs[o]? = some (.int .u8 x)) (h1 : t ≠ 27) (h2 : t ≠ 5) (h3 : t ≠ 68) :
    Calls Try.prog 87 #[.func (.func 54) #[] #[.pointer (some ⟨Bp, 0, none⟩)], .int .i64 z, .pointer (some ⟨P, o, none⟩)] w fun e w' => e = .returned (.tuple #[]) ∧ Wr b Bb Bp (bs ++ Im.bytesOf size (IntKind.u64.wrap x)) w' ∧ Wrote b Bb w w' := by
  subst hz
  have hwb : IntKind.u8.wrap (IntKind.u64.wrap x) = x := by rw [IntKind.wrap_u8, IntKind.wrap_u64]; omega
  have hvr : 0 ≤ IntKind.u64.wrap x ∧ IntKind.u64.wrap x ≤ 18446744073709551615 := by rw [IntKind.wrap_u64]; omega
  obtain ⟨v, hv⟩ : ∃ v, v = IntKind.u64.wrap x := ⟨_, rfl⟩
  rw [← hv] at hwb hvr ⊢
  have cw := qh (write_any size v bs b Bb Bp w hs hvr hbB h hl)
  have HH := qh h
  have HP := qh hP
  have hvv : IntKind.u64.wrap x = v := hv.symm
  clear hv
  have k0 := hP.cell o
  rw [ho] at k0
  have HO := qh ho
  clear h hP ho
  go_enter Try.func87, Try.ntmps87
  go_wp2_with (go_at_call 54; ((with_reducible refine (cw.out).mono ?_); rintro e w1 ⟨rfl, hI1, hK1⟩; have P1 := qh (HP.out.wrote' hK1 HH.out.isvar h1 h2); have I1 := qh hI1; have K1 := qh hK1; have k1 := P1.out.cell o; rw [HO.out] at k1; have f1 := P1.out.free o; clear hI1 hK1 k0))
  go_end0
  exact ⟨rfl, I1.out.off (p := ⟨P, o, none⟩) P1.out h3 h1 h2 _, K1.out.noop P1.out HO.out⟩
end Go.Proofs.Ytgmlbimgcifenaa
namespace Im
open Go
def IsBytes (bs : List Int) : Prop := ∀ x ∈ bs, 0 ≤ x ∧ x ≤ 255
theorem IsBytes.nil : IsBytes [] := fun _ h => by cases h
theorem IsBytes.drop {bs : List Int} (h : IsBytes bs) (n : Nat) : IsBytes (bs.drop n) := fun x hx => h x (List.mem_of_mem_drop hx)
theorem IsBytes.take {bs : List Int} (h : IsBytes bs) (n : Nat) : IsBytes (bs.take n) := fun x hx => h x (List.mem_of_mem_take hx)
theorem IsBytes.app {bs cs : List Int} (h : IsBytes bs) (k : IsBytes cs) : IsBytes (bs ++ cs) := fun x hx => by
  rcases List.mem_append.1 hx with hx | hx
  · exact h x hx
  · exact k x hx
theorem IsBytes.get {bs : List Int} (h : IsBytes bs) (k : Nat) : 0 ≤ bs.getD k 0 ∧ bs.getD k 0 ≤ 255 := by
  by_cases hk : k < bs.length
  · have e : bs.getD k 0 = bs[k] := by simp [List.getD, hk]
    rw [e]
    exact h _ (List.getElem_mem hk)
  · have e : bs.getD k 0 = 0 := by simp [List.getD, List.getElem?_eq_none (show bs.length ≤ k by omega)]
    rw [e]
    omega
theorem bytesOf_bytes : ∀ (n : Nat) (v : Int), IsBytes (bytesOf n v)
  | 0, _ => IsBytes.nil
  | n + 1, v => by
    unfold bytesOf
    refine (bytesOf_bytes n v).app fun x hx => ?_
    obtain rfl := List.mem_singleton.1 hx
    omega
theorem val_congr {f g : Nat → Int} : ∀ n, (∀ k, k < n → f k = g k) → val f n = val g n
  | 0, _ => rfl
  | n + 1, h => by unfold val; rw [val_congr n fun k hk => h k (by omega), h n (by omega)]
theorem byte_val (f : Nat → Int) (h : ∀ k, 0 ≤ f k ∧ f k ≤ 255) : ∀ n k, k < n → byte (val f n) k = f k
  | 0, k, hk => by omega
  | n + 1, k, hk => by
    unfold val byte
    have hf := h k
    by_cases e : k = n
    · subst e
      have hv := val_lt f h k
      have hp : (0 : Int) < 2 ^ (8 * k) := Int.pow_pos (by decide)
      generalize (2 : Int) ^ (8 * k) = p at *
      rw [Int.add_mul_ediv_right _ _ (by omega), Int.ediv_eq_zero_of_lt hv.1 hv.2]
      omega
    · have ih := byte_val f h n k (by omega)
      unfold byte at ih
      have hp : (0 : Int) < 2 ^ (8 * k) := Int.pow_pos (by decide)
      have ep : (2 : Int) ^ (8 * n) = 256 * 2 ^ (8 * (n - k - 1)) * 2 ^ (8 * k) := by
        rw [Int.mul_assoc, ← Int.pow_add, show (256 : Int) = 2 ^ 8 from rfl, ← Int.pow_add]
        congr 1
        omega
      rw [ep]
      generalize (2 : Int) ^ (8 * k) = p at *
      generalize (2 : Int) ^ (8 * (n - k - 1)) = q at *
      rw [show f n * (256 * q * p) = (f n * q * 256) * p by grind, Int.add_mul_ediv_right _ _ (by omega), Int.add_mul_emod_self_right]
      exact ih
def rdn (n : Nat) (bs : List Int) : Option (Int × List Int) := if n ≤ bs.length then some (val (fun k => bs.getD k 0) n, bs.drop n) else none
theorem rdn_bytes (n : Nat) (v : Int) (rest : List Int) : rdn n (bytesOf n v ++ rest) = some (v % 2 ^ (8 * n), rest) := by
  unfold rdn
  rw [if_pos (by rw [List.length_append, bytesOf_len]; omega)]
  congr 2
  · rw [← val_byte v n]
    refine val_congr n fun k hk => ?_
    have e : (bytesOf n v ++ rest)[k]? = some (byte v k) := by rw [List.getElem?_append_left (by rw [bytesOf_len]; exact hk), bytesOf_at? n v k hk]
    simp [List.getD, e]
  · have := bytesOf_len n v
    simp [this]
theorem rdn_inv {n : Nat} {bs : List Int} {y : Int} {rest : List Int} (h : IsBytes bs) (e : rdn n bs = some (y, rest)) : bs = bytesOf n y ++ rest ∧ 0 ≤ y ∧ y < 2 ^ (8 * n) ∧ IsBytes rest := by
  unfold rdn at e
  by_cases hl : n ≤ bs.length
  · rw [if_pos hl] at e
    injection e with e
    injection e with e1 e2
    subst e1 e2
    have hb := val_lt (fun k => bs.getD k 0) h.get n
    refine ⟨?_, hb.1, hb.2, h.drop n⟩
    have e : bytesOf n (val (fun k => bs.getD k 0) n) = bs.take n := by
      apply List.ext_getElem?
      intro k
      by_cases hk : k < n
      · rw [bytesOf_at? n _ k hk, byte_val _ h.get n k hk, List.getElem?_take, if_pos hk]
        simp [List.getD, List.getElem?_eq_getElem (show k < bs.length by omega)]
      · rw [List.getElem?_eq_none (by rw [bytesOf_len]; omega), List.getElem?_eq_none (by rw [List.length_take]; omega)]
    rw [e, List.take_append_drop]
  · rw [if_neg hl] at e
    cases e
theorem rdn_none {n : Nat} {bs : List Int} (e : rdn n bs = none) : bs.length < n := by
  unfold rdn at e
  by_cases hl : n ≤ bs.length
  · rw [if_pos hl] at e; cases e
  · omega
theorem rdn_few {n : Nat} {bs : List Int} (h : bs.length < n) : rdn n bs = none := by unfold rdn; rw [if_neg (by omega)]
end Im
namespace Go.Proofs.Ytgmlbimgcifenaa
open Go.RowKit Go.Shelf
def Pan (e : Ending) : Prop := ∃ s : ByteArray, e = .panicked [{ v := .iface 9 (.string s), recovered := false }]
def Got {α : Type} (b Bb Bp P : Nat) (t : TypeId) (size : Nat) (r : Option (α × List Int)) (f : α → Array Value) (w : World) (e : Ending) (w' : World) : Prop :=
  (∃ v rest, r = some (v, rest) ∧ e = .returned (.tuple #[]) ∧ Rd b Bb Bp rest w' ∧ Rk b Bb P w w' ∧ Box w' P t (f v)) ∨ (r = none ∧ Pan e ∧ Rk b Bb P w w' ∧ ∃ cs', Box w' P t cs' ∧ cs'.size = size)
theorem read_few (size : Nat) (z : Int) (hz : z = size) (v0 : Int) (bs : List Int) (b Bb Bp : Nat) (w : World) (hl : bs.length < size) (h : Rd b Bb Bp bs w) :
    Calls Try.prog 60 #[.int .i64 z, .int .u64 v0, .pointer (some ⟨Bp, 0, none⟩)] w fun e w' => Pan e ∧ w = w' := by
  obtain ⟨hp, A, c, hb, _, _⟩ := h
  have b0 := hb.cell 0
  have p0 := hp.cell 0
  have hz0 : ¬ z ≤ (bs.length : Int) := by omega
  generalize bs.length = n at *
  clear hb hp hl hz
  go_enter Try.func60, Try.ntmps60
  go_wp2_with (go_at_call 30; ((with_reducible refine (need_no _ _).mono ?_); rintro e w2 ⟨rfl, rfl⟩))
  first | exact ⟨rfl, ⟨_, rfl⟩, rfl⟩ | exact ⟨⟨_, rfl⟩, rfl⟩
theorem read_all (size : Nat) (z : Int) (hz : z = size) (v0 y : Int) (bs rest : List Int) (b Bb Bp : Nat) (w : World) (hs : 1 ≤ size ∧ size ≤ 8) (hB : Im.IsBytes bs) (hr : Im.rdn size bs = some (y, rest)) (hbB : b ≤ Bb) (h : Rd b Bb Bp bs w) :
    Calls Try.prog 60 #[.int .i64 z, .int .u64 v0, .pointer (some ⟨Bp, 0, none⟩)] w fun e w' => e = .returned (.int .u64 y) ∧ Rd b Bb Bp rest w' ∧ Wrote b Bb w w' := by
  obtain ⟨e, h0, h1, _⟩ := Im.rdn_inv hB hr
  subst e
  have := read_num size z hz v0 y rest b Bb Bp w hs hbB h
  rwa [Int.emod_eq_of_lt h0 h1] at this
theorem part_int (size : Nat) (z : Int) (hz : z = size) (x0 : Int) (P o : Nat) (t : TypeId) (cs : Array Value) (bs : List Int) (b Bb Bp : Nat) (w : World) (hs : 1 ≤ size ∧ size ≤ 4) (hBy : Im.IsBytes bs) (hbB : b ≤ Bb) (hbP : b ≤ P) (hbw : b ≤ w.heap.size) (h : Rd b Bb Bp bs w) (hP : Box w P t cs) (ho : cs[o]? = some (.int .i64 x0)) (h1 : t ≠ 27) (h2 : t ≠ 5) (h3 : t ≠ 68) :
    Calls Try.prog 51 #[.func (.func 60) #[] #[.pointer (some ⟨Bp, 0, none⟩)], .int .i64 z, .pointer (some ⟨P, o, none⟩)] w (Got b Bb Bp P t cs.size (Im.rdn size bs) (fun y => cs.setIfInBounds o (.int .i64 (y))) w) := by
  subst hz
  have HP := qh hP
  have k0 := hP.cell o
  rw [ho] at k0
  cases hr : Im.rdn size bs with
  | none =>
    have cr := fun v0 => qh (read_few size size rfl v0 bs b Bb Bp w (Im.rdn_none hr) h)
    clear h hP ho hs hr
    go_enter Try.func51, Try.ntmps51
    go_wp2_with (go_at_call 60; ((with_reducible refine ((cr _).out).mono ?_); rintro e w2 ⟨⟨s, rfl⟩, rfl⟩))
    first | exact ⟨rfl, .inr ⟨rfl, ⟨_, rfl⟩, Rk.refl _ _ _ _, _, HP.out, rfl⟩⟩ | exact .inr ⟨rfl, ⟨_, rfl⟩, Rk.refl _ _ _ _, _, HP.out, rfl⟩
  | some q =>
    obtain ⟨y, rest⟩ := q
    obtain ⟨_, y0, y1, _⟩ := Im.rdn_inv hBy hr
    have y2 : y < 2 ^ (8 * 4) := Int.lt_of_lt_of_le y1 (by have := Nat.pow_le_pow_right (show 0 < 2 by decide) (show 8 * size ≤ 8 * 4 by omega); exact_mod_cast this)
    have hwb : IntKind.i64.wrap y = y := by rw [IntKind.wrap_i64]; omega
    have cr := fun v0 => qh (read_all size size rfl v0 y bs rest b Bb Bp w (by omega) hBy hr hbB h)
    have HH := qh h.isvar
    have HO := qh ho
    have HB := qh hbP
    clear h hP ho hr y0 y1 y2
    go_enter Try.func51, Try.ntmps51
    go_wp2_with (go_at_call 60; ((with_reducible refine ((cr _).out).mono ?_); rintro e w1 ⟨rfl, hI1, hK1⟩; have P1 := qh (HP.out.wrote' hK1 HH.out h1 h2); have I1 := qh hI1; have K1 := qh hK1; have k1 := P1.out.cell o; rw [HO.out] at k1; have f1 := P1.out.free o; clear hI1 hK1 k0))
    go_end0
    exact .inl ⟨y, rest, rfl, rfl, I1.out.off (p := ⟨P, o, none⟩) P1.out h3 h1 HB.out _, ⟨(K1.out.to hbw).setCell HB.out _, ((Kb.refl (B := P) w).wrote K1.out HH.out).put o _⟩, by show Box _ _ _ (cs.setIfInBounds o (.int .i64 (y))); (try rw [hwb]); exact P1.out.put o _⟩
theorem part_u64 (size : Nat) (z : Int) (hz : z = size) (x0 : Int) (P o : Nat) (t : TypeId) (cs : Array Value) (bs : List Int) (b Bb Bp : Nat) (w : World) (hs : 1 ≤ size ∧ size ≤ 8) (hBy : Im.IsBytes bs) (hbB : b ≤ Bb) (hbP : b ≤ P) (hbw : b ≤ w.heap.size) (h : Rd b Bb Bp bs w) (hP : Box w P t cs) (ho : cs[o]? = some (.int .u64 x0)) (h1 : t ≠ 27) (h2 : t ≠ 5) (h3 : t ≠ 68) :
    Calls Try.prog 75 #[.func (.func 60) #[] #[.pointer (some ⟨Bp, 0, none⟩)], .int .i64 z, .pointer (some ⟨P, o, none⟩)] w (Got b Bb Bp P t cs.size (Im.rdn size bs) (fun y => cs.setIfInBounds o (.int .u64 (y))) w) := by
  subst hz
  have HP := qh hP
  have k0 := hP.cell o
  rw [ho] at k0
  cases hr : Im.rdn size bs with
  | none =>
    have cr := fun v0 => qh (read_few size size rfl v0 bs b Bb Bp w (Im.rdn_none hr) h)
    clear h hP ho hs hr
    go_enter Try.func75, Try.ntmps75
    go_wp2_with (go_at_call 60; ((with_reducible refine ((cr _).out).mono ?_); rintro e w2 ⟨⟨s, rfl⟩, rfl⟩))
    first | exact ⟨rfl, .inr ⟨rfl, ⟨_, rfl⟩, Rk.refl _ _ _ _, _, HP.out, rfl⟩⟩ | exact .inr ⟨rfl, ⟨_, rfl⟩, Rk.refl _ _ _ _, _, HP.out, rfl⟩
  | some q =>
    obtain ⟨y, rest⟩ := q
    obtain ⟨_, y0, y1, _⟩ := Im.rdn_inv hBy hr
    have y2 : y < 2 ^ (8 * 8) := Int.lt_of_lt_of_le y1 (by have := Nat.pow_le_pow_right (show 0 < 2 by decide) (show 8 * size ≤ 8 * 8 by omega); exact_mod_cast this)
    have hwb : IntKind.u64.wrap y = y := by rw [IntKind.wrap_u64]; omega
    have cr := fun v0 => qh (read_all size size rfl v0 y bs rest b Bb Bp w (by omega) hBy hr hbB h)
    have HH := qh h.isvar
    have HO := qh ho
    have HB := qh hbP
    clear h hP ho hr y0 y1 y2
    go_enter Try.func75, Try.ntmps75
    go_wp2_with (go_at_call 60; ((with_reducible refine ((cr _).out).mono ?_); rintro e w1 ⟨rfl, hI1, hK1⟩; have P1 := qh (HP.out.wrote' hK1 HH.out h1 h2); have I1 := qh hI1; have K1 := qh hK1; have k1 := P1.out.cell o; rw [HO.out] at k1; have f1 := P1.out.free o; clear hI1 hK1 k0))
    go_end0
    exact .inl ⟨y, rest, rfl, rfl, I1.out.off (p := ⟨P, o, none⟩) P1.out h3 h1 HB.out _, ⟨(K1.out.to hbw).setCell HB.out _, ((Kb.refl (B := P) w).wrote K1.out HH.out).put o _⟩, by show Box _ _ _ (cs.setIfInBounds o (.int .u64 (y))); (try rw [hwb]); exact P1.out.put o _⟩
theorem part_i8 (size : Nat) (z : Int) (hz : z = size) (x0 : Int) (P o : Nat) (t : TypeId) (cs : Array Value) (bs : List Int) (b Bb Bp : Nat) (w : World) (hs : 1 ≤ size ∧ size ≤ 1) (hBy : Im.IsBytes bs) (hbB : b ≤ Bb) (hbP : b ≤ P) (hbw : b ≤ w.heap.size) (h : Rd b Bb Bp bs w) (hP : Box w P t cs) (ho : cs[o]? = some (.int .i8 x0)) (h1 : t ≠ 27) (h2 : t ≠ 5) (h3 : t ≠ 68) :
    Calls Try.prog 86 #[.func (.func 60) #[] #[.pointer (some ⟨Bp, 0, none⟩)], .int .i64 z, .pointer (some ⟨P, o, none⟩)] w (Got b Bb Bp P t cs.size (Im.rdn size bs) (fun y => cs.setIfInBounds o (.int .i8 (IntKind.i8.wrap y))) w) := by
  subst hz
  have HP := qh hP
  have k0 := hP.cell o
  rw [ho] at k0
  cases hr : Im.rdn size bs with
  | none =>
    have cr := fun v0 => qh (read_few size size rfl v0 bs b Bb Bp w (Im.rdn_none hr) h)
    clear h hP ho hs hr
    go_enter Try.func86, Try.ntmps86
    go_wp2_with (go_at_call 60; ((with_reducible refine ((cr _).out).mono ?_); rintro e w2 ⟨⟨s, rfl⟩, rfl⟩))
    first | exact ⟨rfl, .inr ⟨rfl, ⟨_, rfl⟩, Rk.refl _ _ _ _, _, HP.out, rfl⟩⟩ | exact .inr ⟨rfl, ⟨_, rfl⟩, Rk.refl _ _ _ _, _, HP.out, rfl⟩
  | some q =>
    obtain ⟨y, rest⟩ := q
    obtain ⟨_, y0, y1, _⟩ := Im.rdn_inv hBy hr
    have y2 : y < 2 ^ (8 * 1) := Int.lt_of_lt_of_le y1 (by have := Nat.pow_le_pow_right (show 0 < 2 by decide) (show 8 * size ≤ 8 * 1 by omega); exact_mod_cast this)
    obtain ⟨qy, hwb⟩ : ∃ qy, IntKind.i8.wrap y = qy := ⟨_, rfl⟩
    have cr := fun v0 => qh (read_all size size rfl v0 y bs rest b Bb Bp w (by omega) hBy hr hbB h)
    have HH := qh h.isvar
    have HO := qh ho
    have HB := qh hbP
    clear h hP ho hr y0 y1 y2
    go_enter Try.func86, Try.ntmps86
    go_wp2_with (go_at_call 60; ((with_reducible refine ((cr _).out).mono ?_); rintro e w1 ⟨rfl, hI1, hK1⟩; have P1 := qh (HP.out.wrote' hK1 HH.out h1 h2); have I1 := qh hI1; have K1 := qh hK1; have k1 := P1.out.cell o; rw [HO.out] at k1; have f1 := P1.out.free o; clear hI1 hK1 k0))
    go_end0
    exact .inl ⟨y, rest, rfl, rfl, I1.out.off (p := ⟨P, o, none⟩) P1.out h3 h1 HB.out _, ⟨(K1.out.to hbw).setCell HB.out _, ((Kb.refl (B := P) w).wrote K1.out HH.out).put o _⟩, by show Box _ _ _ (cs.setIfInBounds o (.int .i8 (IntKind.i8.wrap y))); (try rw [hwb]); exact P1.out.put o _⟩
theorem part_u8 (size : Nat) (z : Int) (hz : z = size) (x0 : Int) (P o : Nat) (t : TypeId) (cs : Array Value) (bs : List Int) (b Bb Bp : Nat) (w : World) (hs : 1 ≤ size ∧ size ≤ 1) (hBy : Im.IsBytes bs) (hbB : b ≤ Bb) (hbP : b ≤ P) (hbw : b ≤ w.heap.size) (h : Rd b Bb Bp bs w) (hP : Box w P t cs) (ho : cs[o]? = some (.int .u8 x0)) (h1 : t ≠ 27) (h2 : t ≠ 5) (h3 : t ≠ 68) :
    Calls Try.prog 87 #[.func (.func 60) #[] #[.pointer (some ⟨Bp, 0, none⟩)], .int .i64 z, .pointer (some ⟨P, o, none⟩)] w (Got b Bb Bp P t cs.size (Im.rdn size bs) (fun y => cs.setIfInBounds o (.int .u8 (y))) w) := by
  subst hz
  have HP := qh hP
  have k0 := hP.cell o
  rw [ho] at k0
  cases hr : Im.rdn size bs with
  | none =>
    have cr := fun v0 => qh (read_few size size rfl v0 bs b Bb Bp w (Im.rdn_none hr) h)
    clear h hP ho hs hr
    go_enter Try.func87, Try.ntmps87
    go_wp2_with (go_at_call 60; ((with_reducible refine ((cr _).out).mono ?_); rintro e w2 ⟨⟨s, rfl⟩, rfl⟩))
    first | exact ⟨rfl, .inr ⟨rfl, ⟨_, rfl⟩, Rk.refl _ _ _ _, _, HP.out, rfl⟩⟩ | exact .inr ⟨rfl, ⟨_, rfl⟩, Rk.refl _ _ _ _, _, HP.out, rfl⟩
  | some q =>
    obtain ⟨y, rest⟩ := q
    obtain ⟨_, y0, y1, _⟩ := Im.rdn_inv hBy hr
    have y2 : y < 2 ^ (8 * 1) := Int.lt_of_lt_of_le y1 (by have := Nat.pow_le_pow_right (show 0 < 2 by decide) (show 8 * size ≤ 8 * 1 by omega); exact_mod_cast this)
    have hwb : IntKind.u8.wrap y = y := by rw [IntKind.wrap_u8]; omega
    have cr := fun v0 => qh (read_all size size rfl v0 y bs rest b Bb Bp w (by omega) hBy hr hbB h)
    have HH := qh h.isvar
    have HO := qh ho
    have HB := qh hbP
    clear h hP ho hr y0 y1 y2
    go_enter Try.func87, Try.ntmps87
    go_wp2_with (go_at_call 60; ((with_reducible refine ((cr _).out).mono ?_); rintro e w1 ⟨rfl, hI1, hK1⟩; have P1 := qh (HP.out.wrote' hK1 HH.out h1 h2); have I1 := qh hI1; have K1 := qh hK1; have k1 := P1.out.cell o; rw [HO.out] at k1; have f1 := P1.out.free o; clear hI1 hK1 k0))
    go_end0
    exact .inl ⟨y, rest, rfl, rfl, I1.out.off (p := ⟨P, o, none⟩) P1.out h3 h1 HB.out _, ⟨(K1.out.to hbw).setCell HB.out _, ((Kb.refl (B := P) w).wrote K1.out HH.out).put o _⟩, by show Box _ _ _ (cs.setIfInBounds o (.int .u8 (y))); (try rw [hwb]); exact P1.out.put o _⟩
end Go.Proofs.Ytgmlbimgcifenaa
namespace Go.Proofs.Ytgmlbimgcifenaa
open Go.RowKit Go.Shelf
theorem conv_bytes (l : List Int) (m : Nat) (A : Option Addr) (c : Nat) (w : World) (B : Nat) (hm : l.length = m) (hL : Lies w B 1 A m (Im.u8s l)) :
    (convert 27 9 (.slice A m c)).run Try.prog w = .ok (.string (strOfNums l)) w := by
  cases A with
  | none =>
    have hm0 : m = 0 := by
      by_cases h0 : m = 0
      · exact h0
      · obtain ⟨ad, e, _⟩ := hL.start h0
        cases e
    have hl0 : l = [] := List.eq_nil_of_length_eq_zero (by omega)
    subst hl0
    exact run_convert_bytes_nil (P := Try.prog) (w := w) 27 5 Try.underlying27 Try.underlying5 m c 9 Try.underlying9
  | some ad =>
    have hl : (loadCells ad m).run Try.prog w = .ok (l.map (Value.int .u8)).toArray w := by
      have := run_loadCells_list (P := Try.prog) w ad (l.map (Value.int .u8)) (fun j v hj => hL.cell ad rfl (fun h0 => by
        have := (List.getElem?_eq_some_iff.1 hj).1
        rw [List.length_map] at this
        omega) j v hj)
      simpa [hm] using this
    rw [run_convert_bytes_string w 27 9 5 _ m c Try.underlying27 Try.underlying5 Try.underlying9, run_bytesToString w _ m c l hl, foldl_push_bytes]
    simp [strOfNums, ByteArray.empty, ByteArray.emptyWithCapacity]
    rfl
end Go.Proofs.Ytgmlbimgcifenaa
namespace Sx
open Go Im
theorem str_append (a b : List Int) : strOfNums (a ++ b) = strOfNums a ++ strOfNums b := by
  apply ByteArray.ext
  simp [strOfNums, ByteArray.data_append]
theorem str_drop (l : List Int) (n : Nat) : (strOfNums l).extract n (strOfNums l).size = strOfNums (l.drop n) := by
  apply ByteArray.ext
  rw [strOfNums_size]
  simp [strOfNums, ByteArray.data_extract, List.map_drop]
  exact List.take_of_length_le (by simp)
theorem str_at {l : List Int} (hB : IsBytes l) (k : Nat) (h : k < l.length) (h' : k < (strOfNums l).size) : (((strOfNums l)[k]'h').toNat : Int) = l.getD k 0 := by
  have hb := hB.get k
  have e : (strOfNums l)[k]'h' = UInt8.ofNat (l.getD k 0).toNat := by
    show (strOfNums l).data[k]'h' = _
    simp [strOfNums, List.getD_eq_getElem?_getD, h]
  rw [e]
  have : (UInt8.ofNat (l.getD k 0).toNat).toNat = (l.getD k 0).toNat := by rw [UInt8.toNat_ofNat']; omega
  rw [this]; omega
theorem str_inj {a b : List Int} (ha : IsBytes a) (hb : IsBytes b) (h : strOfNums a = strOfNums b) : a = b := by
  have hl : a.length = b.length := by rw [← strOfNums_size, ← strOfNums_size, h]
  refine List.ext_getElem hl fun i h1 h2 => ?_
  have e1 := str_at ha i h1 (by rw [strOfNums_size]; exact h1)
  have e2 := str_at hb i h2 (by rw [strOfNums_size]; exact h2)
  have e3 : ((strOfNums a)[i]'(by rw [strOfNums_size]; exact h1)).toNat = ((strOfNums b)[i]'(by rw [strOfNums_size]; exact h2)).toNat := by congr 1; congr 1
  rw [List.getD_eq_getElem?_getD, List.getElem?_eq_getElem h1] at e1
  rw [List.getD_eq_getElem?_getD, List.getElem?_eq_getElem h2] at e2
  simp only [Option.getD_some] at e1 e2
  rw [← e1, ← e2, e3]
theorem str_toList (l : List Int) : (strOfNums l).toList = (strOfNums l).data.toList := Lib.toList_data _
theorem str_eq_iff {a b : List Int} (ha : IsBytes a) (hb : IsBytes b) : ((strOfNums a).toList == (strOfNums b).toList) = decide (a = b) := by
  by_cases h : a = b
  · subst h; simp
  · have : ¬ (strOfNums a).toList = (strOfNums b).toList := fun e => h (str_inj ha hb (ByteArray.ext (by rw [str_toList, str_toList] at e; exact Array.toList_inj.1 e)))
    rw [decide_eq_false h]; simpa using this
theorem val_shift (f : Nat → Int) : ∀ n, val f (n + 1) = f 0 + 256 * val (fun k => f (k + 1)) n
  | 0 => by simp [val]
  | n + 1 => by
    show val f (n + 1) + f (n + 1) * 2 ^ (8 * (n + 1)) = _
    rw [val_shift f n]
    show _ = f 0 + 256 * (val (fun k => f (k + 1)) n + f (n + 1) * 2 ^ (8 * n))
    have e : (2 : Int) ^ (8 * (n + 1)) = 2 ^ (8 * n) * 256 := by rw [show 8 * (n + 1) = 8 * n + 8 by omega, Int.pow_add]; rfl
    rw [e]
    generalize (2 : Int) ^ (8 * n) = p
    grind
theorem or_low (v x : Int) (hv : 0 ≤ v ∧ v < 2 ^ 56) (hx : 0 ≤ x ∧ x ≤ 255) : bits .or .u64 (v * 256) x = v * 256 + x := by
  obtain ⟨V, rfl⟩ := Int.eq_ofNat_of_zero_le hv.1
  obtain ⟨X, rfl⟩ := Int.eq_ofNat_of_zero_le hx.1
  have e : (V : Int) * 256 = ((256 * V : Nat) : Int) := by omega
  have hX : X < 2 ^ 8 := by omega
  have h2 : 256 * V ||| X = 256 * V + X := (Nat.two_pow_add_eq_or_of_lt hX V).symm
  rw [e, u64_or_nat _ _ (by omega) (by omega), h2]
  omega
def num (n : Nat) (o : Option (List Int)) : Int := ((o.bind (rdn n)).map (·.1)).getD 0
def rest (n : Nat) (o : Option (List Int)) : Option (List Int) := (o.bind (rdn n)).map (·.2)
theorem num_some {n : Nat} {l m : List Int} {v : Int} (h : rdn n l = some (v, m)) : num n (some l) = v ∧ rest n (some l) = some m := by unfold num rest; rw [Option.bind_some, h]; exact ⟨rfl, rfl⟩
theorem num_none {n : Nat} {l : List Int} (h : rdn n l = none) : num n (some l) = 0 ∧ rest n (some l) = none := by unfold num rest; rw [Option.bind_some, h]; exact ⟨rfl, rfl⟩
theorem num_lt {n : Nat} {o : Option (List Int)} (hB : ∀ l, o = some l → IsBytes l) : 0 ≤ num n o ∧ num n o < 2 ^ (8 * n) := by
  have hp : (0 : Int) < 2 ^ (8 * n) := Int.pow_pos (by decide)
  match o with
  | none => exact ⟨Int.le_refl _, hp⟩
  | some l =>
    cases h : rdn n l with
    | none => rw [(num_none h).1]; exact ⟨Int.le_refl _, hp⟩
    | some q =>
      have h' : rdn n l = some (q.1, q.2) := h
      rw [(num_some h').1]
      obtain ⟨_, h1, h2, _⟩ := rdn_inv (hB l rfl) h'
      exact ⟨h1, h2⟩
theorem rest_bytes {n : Nat} {o : Option (List Int)} (hB : ∀ l, o = some l → IsBytes l) : ∀ l, rest n o = some l → IsBytes l := fun l h => by
  match o with
  | none => cases h
  | some m =>
    cases hr : rdn n m with
    | none => rw [(num_none hr).2] at h; cases h
    | some q =>
      have hr' : rdn n m = some (q.1, q.2) := hr
      rw [(num_some hr').2] at h
      injection h with h
      subst h
      exact (rdn_inv (hB m rfl) hr').2.2.2
end Sx
namespace Go.Proofs.Ytgmlbimgcifenaa
open Go.RowKit Go.Shelf
structure Sol (B : Nat) (w w' : World) : Prop where
  os : w'.os = w.os
  tape : w'.tape = w.tape
  output : w'.output = w.output
  size : w.heap.size ≤ w'.heap.size
  block : ∀ k, k < w.heap.size → k ≠ B → w'.heap[k]? = w.heap[k]?
section
variable {B b : Nat} {w w' w'' : World}
theorem Sol.refl (B : Nat) (w : World) : Sol B w w := ⟨rfl, rfl, rfl, Nat.le_refl _, fun _ _ _ => rfl⟩
theorem Sol.trans (h : Sol B w w') (k : Sol B w' w'') : Sol B w w'' := ⟨k.os.trans h.os, k.tape.trans h.tape, k.output.trans h.output, Nat.le_trans h.size k.size, fun i hi hne => (k.block i (Nat.lt_of_lt_of_le hi h.size) hne).trans (h.block i hi hne)⟩
theorem Sol.put (h : Sol B w w') (i : Nat) (u : Value) : Sol B w (w'.setCell ⟨B, i, none⟩ u) := by
  have hz := (Below.refl 0 w').setCell (p := ⟨B, i, none⟩) (Nat.zero_le _) u
  exact h.trans ⟨hz.os, hz.tape, hz.output, hz.size, fun k hk hne => heap_setCell_other w' ⟨B, i, none⟩ k u hne⟩
theorem Sol.call (h : Sol B w w') (hb : Below w'.heap.size w' w'') : Sol B w w'' := h.trans ⟨hb.os, hb.tape, hb.output, hb.size, fun k hk _ => hb.block k hk⟩
theorem Sol.fresh (h : Sol B w w') {p : Addr} (hp : w.heap.size ≤ p.block) (u : Value) : Sol B w (w'.setCell p u) := by
  have hz := (Below.refl 0 w').setCell (p := p) (Nat.zero_le _) u
  exact ⟨hz.os.trans h.os, hz.tape.trans h.tape, hz.output.trans h.output, Nat.le_trans h.size hz.size, fun k hk hne => (heap_setCell_other w' p k u (by omega)).trans (h.block k hk hne)⟩
theorem Sol.freshRow (h : Sol B w w') {g : Nat} (hp : w.heap.size ≤ g) (cs : Array Value) : Sol B w (w'.setRow g cs) := by
  have hz := Below.setRow' (g := g) (Below.refl 0 w') (Nat.zero_le _) cs
  exact ⟨hz.os.trans h.os, hz.tape.trans h.tape, hz.output.trans h.output, Nat.le_trans h.size hz.size, fun k hk hne => (setRow_other w' g k cs (by omega)).trans (h.block k hk hne)⟩
theorem Sol.below (h : Sol B w w') (hb : b ≤ B) (hs : b ≤ w.heap.size) : Below b w w' := ⟨h.os, h.tape, h.output, h.size, fun i hi => h.block i (by omega) (by omega)⟩
theorem Box.sol {g : Nat} {t : TypeId} {cs : Array Value} (h : Box w g t cs) (k : Sol B w w') (hne : g ≠ B) : Box w' g t cs := ⟨(k.block g h.lt hne).trans h.is⟩
end
def RIs (w : World) (B : Nat) : Option (List Int) → Prop
  | none => ∃ s : ByteArray, Box w B 82 #[.string s, .bool true]
  | some l => Box w B 82 #[.string (strOfNums l), .bool false]
section
variable {B : Nat} {w w' : World} {o : Option (List Int)}
theorem RIs.box (h : RIs w B o) : ∃ s b, Box w B 82 #[.string s, .bool b] := by
  match o with
  | none => obtain ⟨s, h⟩ := h; exact ⟨s, _, h⟩
  | some l => exact ⟨_, _, h⟩
theorem RIs.lt (h : RIs w B o) : B < w.heap.size := by obtain ⟨s, b, h⟩ := h.box; exact h.lt
theorem RIs.stays (h : RIs w B o) (hk : w'.heap[B]? = w.heap[B]?) : RIs w' B o := by
  match o with
  | none => obtain ⟨s, h⟩ := h; exact ⟨s, ⟨hk.trans h.is⟩⟩
  | some l => exact (⟨hk.trans (show Box w B _ _ from h).is⟩ : Box w' B 82 #[.string (strOfNums l), .bool false])
theorem RIs.below {b : Nat} (h : RIs w B o) (hb : Below b w w') (hB : B < b) : RIs w' B o := h.stays (hb.block B hB)
theorem RIs.alloc (h : RIs w B o) (x : Obj) : RIs (w.alloc x) B o := h.below (one_below w x) h.lt
theorem RIs.apart {g : Nat} {t : TypeId} {cs : Array Value} (h : RIs w B o) (hg : Box w g t cs) (ht : t ≠ 82) : g ≠ B := by
  obtain ⟨s, b, h⟩ := h.box
  exact Box.apart hg h ht
theorem RIs.off {p : Addr} {t : TypeId} {cs : Array Value} (h : RIs w B o) (hg : Box w p.block t cs) (ht : t ≠ 82) (u : Value) : RIs (w.setCell p u) B o :=
  h.stays (heap_setCell_other w p B u (fun e => h.apart hg ht e.symm))
theorem RIs.offRow {g : Nat} {t : TypeId} {cs : Array Value} (h : RIs w B o) (hg : Box w g t cs) (ht : t ≠ 82) (cs' : Array Value) : RIs (w.setRow g cs') B o :=
  h.stays (setRow_other w g B cs' (fun e => h.apart hg ht e.symm))
theorem RIs.bad (h : RIs w B o) : RIs (w.setCell ⟨B, 1, none⟩ (.bool true)) B none := by
  obtain ⟨s, b, h⟩ := h.box
  exact ⟨s, h.put 1 _⟩
end
theorem below_gone {B : Nat} {w0 w w' : World} {row : Option Nat} (h : Below B w0 w) (hg : w.grownBy w' row) (hr : ∀ r, row = some r → B ≤ r) (hB : B ≤ w0.heap.size) : Below B w0 w' :=
  ⟨hg.os.trans h.os, hg.tape.trans h.tape, hg.output.trans h.output, Nat.le_trans h.size hg.size, fun i hi => (hg.block i (Nat.lt_of_lt_of_le hi (Nat.le_trans hB h.size)) (fun e => by have := hr i e.symm; omega)).trans (h.block i hi)⟩
theorem own_at {w : World} {base : Nat} {e : TypeId} {size n : Nat} {v : Value} {xs : List Value} (h : w.ownsRow base e size v n xs) : ∀ r, v.ownBlock = some r → base ≤ r := fun r hr => by
  obtain ⟨_, ⟨rfl, _⟩ | ⟨g, cap, cur, rfl, hbg, _⟩⟩ := h
  · cases hr
  · have e' : g = r := by injection hr
    omega
theorem rnum_any (n : Nat) (z : Int) (hz : z = n) (o : Option (List Int)) (B : Nat) (w : World) (hn : 1 ≤ n ∧ n ≤ 8) (hB : ∀ l, o = some l → Im.IsBytes l) (h : RIs w B o) :
    Calls Try.prog 43 #[.pointer (some ⟨B, 0, none⟩), .int .i64 z] w fun e w' => e = .returned (.int .u64 (Sx.num n o)) ∧ RIs w' B (Sx.rest n o) ∧ Sol B w w' := by
  match o with
  | none =>
    obtain ⟨s, hs⟩ := h
    have c0 := hs.cell 0
    have c1 := hs.cell 1
    have f0 := hs.free 0
    have f1 := hs.free 1
    have HB := qh hs
    clear hs hB
    go_enter Try.func43, Try.ntmps43
    go_wp2
    go_ret
    exact ⟨rfl, ⟨_, (HB.out.put 1 (.bool true)).put 0 (.string ⟨#[]⟩)⟩, ((Sol.refl B w).put 1 _).put 0 _⟩
  | some l =>
    have hs : Box w B 82 #[.string (strOfNums l), .bool false] := h
    have c0 := hs.cell 0
    have c1 := hs.cell 1
    have f0 := hs.free 0
    have f1 := hs.free 1
    have HB := qh hs
    have hsz := strOfNums_size l
    clear h hs
    by_cases hlt : l.length < n
    · have hr := Im.rdn_few hlt
      obtain ⟨e1, e2⟩ := Sx.num_none hr
      rw [e1, e2]
      have hlz : (l.length : Int) < z := by omega
      generalize strOfNums l = s at *
      clear e1 e2 hr hB
      go_enter Try.func43, Try.ntmps43
      go_wp2
      go_ret
      exact ⟨rfl, ⟨_, (HB.out.put 1 (.bool true)).put 0 (.string ⟨#[]⟩)⟩, ((Sol.refl B w).put 1 _).put 0 _⟩
    · have hlz : ¬ (l.length : Int) < z := by omega
      have hr : Im.rdn n l = some (Im.val (fun k => l.getD k 0) n, l.drop n) := by unfold Im.rdn; rw [if_pos (by omega)]
      obtain ⟨e1, e2⟩ := Sx.num_some hr
      rw [e1, e2]
      have hby := hB l rfl
      have HX := qh (Sx.str_drop l n)
      have HAT := qh (fun k (hk : k < l.length) h' => Sx.str_at hby k hk h')
      have HGET := qh (fun k => hby.get k)
      generalize strOfNums l = s at *
      clear e1 e2 hr hB
      go_enter Try.func43, Try.ntmps43
      go_wp2
      go_loopw [5, 6] (fun v i wr => ∃ m : Nat, m ≤ n ∧ i = .int .i64 ((m : Int) - 1) ∧ v = .int .u64 (Im.val (fun k => l.getD (m + k) 0) (n - m)) ∧ w = wr) (fun _ i _ => (intOf i + 1).toNat)
      case atStart => exact ⟨n, by omega, by subst hz; rfl, by rw [Nat.sub_self]; rfl, rfl⟩
      case round =>
        obtain ⟨m, hm, rfl, rfl, rfl⟩ := hrel
        by_cases h0 : 0 < m
        · obtain ⟨q, rfl⟩ : ∃ q, m = q + 1 := ⟨m - 1, by omega⟩
          have hge : (0 : Int) ≤ ((q + 1 : Nat) : Int) - 1 := by omega
          have hvl := Im.val_lt (fun k => l.getD (q + 1 + k) 0) (fun k => HGET.out _) (n - (q + 1))
          have hp : (2 : Int) ^ (8 * (n - (q + 1))) ≤ 2 ^ 56 := by
            have := Nat.pow_le_pow_right (show 0 < 2 by decide) (show 8 * (n - (q + 1)) ≤ 56 by omega)
            exact_mod_cast this
          have hq8 : q < l.length := by omega
          have hx := HAT.out q hq8 (by omega)
          have hxb := HGET.out q
          have hnext : Im.val (fun k => l.getD (q + k) 0) (n - q) = Im.val (fun k => l.getD (q + 1 + k) 0) (n - (q + 1)) * 256 + l.getD q 0 := by
            rw [show n - q = (n - (q + 1)) + 1 by omega, Sx.val_shift]
            rw [show (fun k => l.getD (q + (k + 1)) 0) = fun k => l.getD (q + 1 + k) 0 from funext fun k => by rw [show q + (k + 1) = q + 1 + k by omega]]
            simp only [Nat.add_zero]
            omega
          have HN := qh hnext
          generalize Im.val (fun k => l.getD (q + 1 + k) 0) (n - (q + 1)) = v at *
          generalize l.getD q 0 = x at *
          have hq1 : ((q + 1 : Nat) : Int) - 1 = q := by omega
          have hor := Sx.or_low v x ⟨hvl.1, by omega⟩ hxb
          have hwv : IntKind.u64.wrap (v * 256) = v * 256 := by rw [IntKind.wrap_u64]; omega
          rw [hq1] at hge ⊢
          clear hnext hp hlz c1 f1
          go_wp2
          go_roundw
          case rel => exact ⟨q, by omega, rfl, by rw [HN.out], by first | rfl | trivial⟩
          case measure => simp [intOf] <;> omega
        · obtain rfl : m = 0 := by omega
          have hx2 : s.extract n l.length = strOfNums (l.drop n) := by rw [← hsz]; exact HX.out
          have hzn : z.toNat = n := by omega
          have hz0 : 0 ≤ z := by omega
          have hz1 : z ≤ (s.size : Int) := by omega
          clear HAT HGET
          go_wp2
          go_ret
          refine ⟨?_, HB.out.put 0 (.string (strOfNums (l.drop n))), (Sol.refl B w).put 0 _⟩
          show Ending.returned (.int .u64 (Im.val (fun k => l.getD (0 + k) 0) (n - 0))) = _
          rw [Nat.sub_zero, Im.val_congr (g := fun k => l.getD k 0) n (fun k _ => by rw [Nat.zero_add])]
theorem rint_any (n : Nat) (z : Int) (hz : z = n) (o : Option (List Int)) (B : Nat) (w : World) (hn : 1 ≤ n ∧ n ≤ 4) (hB : ∀ l, o = some l → Im.IsBytes l) (h : RIs w B o) :
    Calls Try.prog 42 #[.pointer (some ⟨B, 0, none⟩), .int .i64 z] w fun e w' => e = .returned (.int .i64 (Sx.num n o)) ∧ RIs w' B (Sx.rest n o) ∧ Sol B w w' := by
  subst hz
  have c1 := qh (rnum_any n n rfl o B w (by omega) hB h)
  have hl := Sx.num_lt (n := n) hB
  have hp : (2 : Int) ^ (8 * n) ≤ 2 ^ 32 := by
    have := Nat.pow_le_pow_right (show 0 < 2 by decide) (show 8 * n ≤ 32 by omega)
    exact_mod_cast this
  generalize Sx.num n o = v at *
  have hw : IntKind.i64.wrap v = v := by rw [IntKind.wrap_i64]; omega
  clear hB h hl hp
  go_enter Try.func42, Try.ntmps42
  go_wp2_with (go_at_call 43; ((with_reducible refine (c1.out).mono ?_); rintro e w1 ⟨rfl, h1, h2⟩; have H1 := qh h1; have H2 := qh h2; clear h1 h2))
  go_ret
  exact ⟨rfl, H1.out, H2.out⟩
def Sx.ended : Option (List Int) → Bool
  | some [] => true
  | _ => false
theorem rend_any (o : Option (List Int)) (B : Nat) (w : World) (hB : ∀ l, o = some l → Im.IsBytes l) (h : RIs w B o) :
    Calls Try.prog 45 #[.pointer (some ⟨B, 0, none⟩)] w fun e w' => e = .returned (.bool (Sx.ended o)) ∧ w = w' := by
  match o with
  | none =>
    obtain ⟨s, hs⟩ := h
    have c0 := hs.cell 0
    have c1 := hs.cell 1
    clear hs hB
    go_enter Try.func45, Try.ntmps45
    go_wp2
    go_ret
    exact ⟨rfl, rfl⟩
  | some l =>
    have hs : Box w B 82 #[.string (strOfNums l), .bool false] := h
    have c0 := hs.cell 0
    have c1 := hs.cell 1
    have he : ((strOfNums l).toList == (⟨#[]⟩ : ByteArray).toList) = Sx.ended (some l) := by
      rw [show (⟨#[]⟩ : ByteArray) = strOfNums [] from rfl, Sx.str_eq_iff (hB l rfl) Im.IsBytes.nil]
      cases l <;> rfl
    have he2 : (strOfNums l).toList.isEmpty = Sx.ended (some l) := by
      rw [← he]
      rw [show (⟨#[]⟩ : ByteArray).toList = [] from Lib.toList_data _]
      cases (strOfNums l).toList <;> rfl
    generalize Sx.ended (some l) = r at *
    generalize strOfNums l = s at *
    clear hs h hB
    go_enter Try.func45, Try.ntmps45
    go_wp2
    go_ret
    exact ⟨rfl, rfl⟩
theorem refput_num (size : Nat) (z v : Int) (hz : z = size) (w : World) (hs : size ≤ 8) (hv : 0 ≤ v ∧ v ≤ 18446744073709551615) :
    Calls Try.prog 17 #[.int .u64 v, .int .i64 z] w fun e w' => e = .returned (.string (strOfNums (Im.bytesOf size v))) ∧ Below w.heap.size w w' := by
  subst hz
  go_enter Try.func17, Try.ntmps17
  go_wp2
  go_loopw [5, 6] (fun l i wr => ∃ k : Nat, k ≤ size ∧ i = .int .i64 k ∧ wr.ownsRow w.heap.size 5 1 l k (Im.u8s (Im.bytesOf k v)) ∧ Below w.heap.size w wr) (fun _ i _ => size - (intOf i).toNat)
  case atStart => exact ⟨0, by omega, rfl, ⟨rfl, .inl ⟨rfl, rfl⟩⟩, Below.refl _ _⟩
  case round =>
    obtain ⟨k, hk, rfl, hO, hb⟩ := hrel
    obtain ⟨A, c, rfl⟩ := owned_slice hO
    by_cases hlt : k < size
    · have hk8 : (k : Int) < size := by omega
      have h8 : IntKind.i64.wrap (8 * (k : Int)) = 8 * k := by rw [IntKind.wrap_i64]; omega
      have h9 : IntKind.u64.wrap (8 * (k : Int)) = 8 * k := by rw [IntKind.wrap_u64]; omega
      have hsn : Im.u8s (Im.bytesOf (k + 1) v) = Im.u8s (Im.bytesOf k v) ++ Im.u8s [v / 2 ^ (8 * k) % 256] := by rw [← Im.u8s_append]; rfl
      have HSN := qh hsn
      have HO := qh hO
      have HB := qh hb
      have sz := hb.size
      obtain ⟨i0, hi0, hz0, hz1, hz2⟩ := u8_parts
      have hI := qh hi0
      have hZ := qh hz0
      have hS := qh hz1
      have hY := qh hz2
      clear hsn hO hb hi0 hz0 hz1 hz2
      go_wp2_with ((with_reducible refine append_gate (t := 27) (e := 5) (size := 1) (bytes := 1) rfl rfl Try.underlying27 hI.out hZ.out hS.out hY.out rfl (by decide) ?_); refine Appends.mk (base := w.heap.size) (n := k) (xs := Im.u8s (Im.bytesOf k v)) rfl (HO.out.alloc _) (lies_byte wr (v / 2 ^ (8 * k) % 256)) (Im.u8s_one _) (by unfold maxLen; omega) (by omega) (by simp; omega) ?_; intro A3 c3 w3 own3 hg3; have O3 := qh own3; have K3 := qh (below_gone (HB.out.alloc sz _) hg3 (own_at (HO.out)) (Nat.le_refl _)); clear own3 hg3)
      go_roundw
      case rel => exact ⟨k + 1, by omega, by go_num, by rw [HSN.out]; exact O3.out, K3.out⟩
      case measure => simp [intOf]; omega
    · have hk8 : ¬ (k : Int) < size := by omega
      obtain rfl : k = size := by omega
      have hcv := conv_bytes (Im.bytesOf k v) k A c wr _ (Im.bytesOf_len _ _) (Lies.owned hO)
      have HB := qh hb
      clear hO hb
      go_wp2
      go_ret
      exact ⟨rfl, HB.out⟩
end Go.Proofs.Ytgmlbimgcifenaa
namespace Crc
open Go
def sum (l : List Int) : Nat := crc (l.map Int.toNat) 4294967295
theorem bytes_nat {l : List Int} (h : Im.IsBytes l) : ∀ x ∈ l.map Int.toNat, x < 256 := by
  intro x hx
  obtain ⟨y, hy, rfl⟩ := List.mem_map.1 hx
  have := h y hy
  omega
theorem sum_lt {l : List Int} (h : Im.IsBytes l) : sum l < 4294967296 := crc_lt _ (bytes_nat h) (by decide)
def upto (l : List Int) (k : Nat) : Nat := crc ((l.take k).map Int.toNat) 4294967295
theorem upto_lt {l : List Int} (h : Im.IsBytes l) (k : Nat) : upto l k < 4294967296 := crc_lt _ (bytes_nat (fun x hx => h x (List.mem_of_mem_take hx))) (by decide)
theorem upto_next (l : List Int) (k : Nat) (hk : k < l.length) : upto l (k + 1) = byte (upto l k) (l.getD k 0).toNat := by
  unfold upto
  have e : l.getD k 0 = l[k] := by simp [hk]
  rw [List.take_succ_eq_append_getElem hk, List.map_append, crc_append, e]
  rfl
theorem upto_all (l : List Int) : upto l l.length = sum l := by unfold upto sum; rw [List.take_length]
theorem top_yes {c : Nat} (h : c.testBit 31 = true) (hc : c < 4294967296) : c / 2147483648 = 1 := by
  rw [Nat.testBit, Nat.shiftRight_eq_div_pow] at h
  simp only [bne_iff_ne, ne_eq, Nat.one_and_eq_mod_two] at h
  have : c / 2 ^ 31 = c / 2147483648 := rfl
  omega
theorem top_no {c : Nat} (h : c.testBit 31 = false) (hc : c < 4294967296) : c / 2147483648 = 0 := by
  rw [Nat.testBit, Nat.shiftRight_eq_div_pow] at h
  simp only [bne_eq_false_iff_eq, Nat.one_and_eq_mod_two] at h
  have : c / 2 ^ 31 = c / 2147483648 := rfl
  omega
end Crc
namespace Go.Proofs.Ytgmlbimgcifenaa
open Go.RowKit
theorem refcheck_any (l : List Int) (w : World) (hB : Im.IsBytes l) (hl : l.length ≤ maxLen) :
    Calls Try.prog 18 #[.string (strOfNums l)] w fun e w' => e = .returned (.int .u32 (Crc.sum l : Nat)) ∧ w = w' := by
  have hsz := strOfNums_size l
  unfold maxLen at hl
  have hat := qh (fun (k : Nat) (h : k < l.length) (h' : k < (strOfNums l).size) => Sx.str_at hB k h h')
  have hlt := qh (fun k => Crc.upto_lt hB k)
  have HB := qh hB
  clear hB
  generalize strOfNums l = s at *
  have hs63 : s.size ≤ 9223372036854775807 := by omega
  go_enter Try.func18, Try.ntmps18
  go_wp2
  go_loop [3, 4, 5, 6] (fun c i k t => ∃ j : Nat, j ≤ l.length ∧ i = .int .i64 j ∧ c = .int .u32 ((Crc.upto l j : Nat) : Int)) (fun _ i _ _ => l.length - (intOf i).toNat)
  case atStart => exact ⟨0, Nat.zero_le _, rfl, rfl⟩
  case round =>
    obtain ⟨j, hj, rfl, rfl⟩ := hrel
    by_cases hlt2 : j < l.length
    · have hjs : j < s.size := by omega
      have hc := hat.out j hlt2 hjs
      have hby := HB.out (l.getD j 0) (by
        have e : l.getD j 0 = l[j] := by simp [hlt2]
        rw [e]; exact List.getElem_mem hlt2)
      obtain ⟨X, hX⟩ : ∃ X : Nat, X = (l.getD j 0).toNat := ⟨_, rfl⟩
      have hcx : (((s[j]'hjs).toNat : Nat) : Int) = (X : Int) := by rw [hc, hX]; omega
      have hX255 : X ≤ 255 := by omega
      have HN := qh (show Crc.upto l (j + 1) = Crc.byte (Crc.upto l j) X from by rw [hX]; exact Crc.upto_next l j hlt2)
      have hcl := hlt.out j
      generalize Crc.upto l j = c at *
      have hxor : bits .xor .u32 (c : Int) ((X : Int) * 16777216) = ((c ^^^ X * 16777216 : Nat) : Int) := by
        rw [show (X : Int) * 16777216 = ((X * 16777216 : Nat) : Int) by omega]
        exact u32_xor_nat _ _ hcl (by omega)
      have hYl : c ^^^ X * 16777216 < 4294967296 := Nat.xor_lt_two_pow (n := 32) hcl (by omega)
      have HB8 : Crc.byte c X = Crc.steps 8 (c ^^^ X * 16777216) := rfl
      rw [HB8] at HN
      clear hc hby hX HB8
      generalize c ^^^ X * 16777216 = Y at *
      have HXO := qh hxor
      clear hxor
      go_wp2
      go_loop [3, 5, 6] (fun c i t => ∃ m : Nat, m ≤ 8 ∧ i = .int .i64 m ∧ c = .int .u32 ((Crc.steps m Y : Nat) : Int)) (fun _ i _ => 8 - (intOf i).toNat)
      case atStart => exact ⟨0, Nat.zero_le _, rfl, by rw [HXO.out]; rfl⟩
      case round =>
        obtain ⟨m, hm, rfl, rfl⟩ := hrel
        have hsl := Crc.steps_lt m hYl
        have HS := qh (show Crc.steps (m + 1) Y = Crc.step (Crc.steps m Y) from rfl)
        by_cases hm8 : m < 8
        · have hm8' : (m : Int) < 8 := by omega
          generalize Crc.steps m Y = N at *
          cases hb : N.testBit 31
          · have hst : Crc.step N = N * 2 % 4294967296 := by unfold Crc.step; rw [hb, if_neg (by decide)]
            have hdiv : (N : Int) / 2147483648 = 0 := by
              have : N / 2147483648 = 0 := Crc.top_no hb hsl
              omega
            rw [hst] at HS
            clear hst
            go_wp2
            go_round
            case rel => exact ⟨m + 1, by omega, by go_num, by rw [HS.out]; exact congrArg (Value.int .u32) (by omega)⟩
            case measure => simp [intOf]; omega
          · have hst : Crc.step N = (N * 2 % 4294967296) ^^^ 1947962583 := by unfold Crc.step; rw [hb, if_pos rfl]; rfl
            have hdiv : (N : Int) / 2147483648 = 1 := by
              have : N / 2147483648 = 1 := Crc.top_yes hb hsl
              omega
            have hx2 := u32_xor_nat (N * 2 % 4294967296) 1947962583 (Nat.mod_lt _ (by decide)) (by decide)
            rw [hst] at HS
            have HX := qh hx2
            clear hst hx2
            go_wp2
            go_round
            case rel => exact ⟨m + 1, by omega, by go_num, by rw [HS.out, ← HX.out]; rfl⟩
            case measure => simp [intOf]; omega
        · obtain rfl : m = 8 := by omega
          clear HS
          rw [← HN.out]
          go_wp2
          go_round
          case rel => exact ⟨j + 1, by omega, by go_num, rfl⟩
          case measure => simp [intOf]; omega
    · obtain rfl : j = l.length := by omega
      rw [Crc.upto_all]
      have hjs : ¬ (l.length : Int) < (s.size : Int) := by omega
      go_wp2
      go_ret
      exact ⟨rfl, rfl⟩
end Go.Proofs.Ytgmlbimgcifenaa
namespace Fx
def cut (v : Int) : Int := min (max v (-2147483648)) 2147483647
def clamp (a lo hi : Int) : Int := min (max a lo) hi
noncomputable def sq (n : Nat) : Nat := Classical.epsilon fun r => r * r ≤ n ∧ n < (r + 1) * (r + 1)
theorem sq_one {n r s : Nat} (h : r * r ≤ n ∧ n < (r + 1) * (r + 1)) (h' : s * s ≤ n ∧ n < (s + 1) * (s + 1)) : r = s := by
  rcases Nat.lt_trichotomy r s with c | c | c
  · have := Nat.mul_le_mul (show r + 1 ≤ s from c) (show r + 1 ≤ s from c)
    omega
  · exact c
  · have := Nat.mul_le_mul (show s + 1 ≤ r from c) (show s + 1 ≤ r from c)
    omega
theorem sq_is {n r : Nat} (h : r * r ≤ n ∧ n < (r + 1) * (r + 1)) : sq n = r := sq_one (Classical.epsilon_spec (p := fun r => r * r ≤ n ∧ n < (r + 1) * (r + 1)) ⟨r, h⟩) h
noncomputable def root (a : Int) : Int := if a ≤ 0 then 0 else sq (a.toNat * 65536)
structure Half (n R j : Nat) : Prop where
  whole : R % 2 ^ j = 0
  lo : R * R ≤ n
  hi : n < (R + 2 ^ j) * (R + 2 ^ j)
theorem Half.start {n j : Nat} (h : n < 2 ^ j * 2 ^ j) : Half n 0 j := ⟨Nat.zero_mod _, by omega, by rwa [Nat.zero_add]⟩
theorem Half.take {n R j : Nat} (h : Half n R (j + 1)) (c : (R + 2 ^ j) * (R + 2 ^ j) ≤ n) : Half n (R + 2 ^ j) j := by
  have e : 2 ^ (j + 1) = 2 ^ j + 2 ^ j := by rw [Nat.pow_succ]; omega
  refine ⟨?_, c, ?_⟩
  · have := Nat.mod_mod_of_dvd R (show 2 ^ j ∣ 2 ^ (j + 1) from ⟨2, by rw [Nat.pow_succ]⟩)
    rw [h.whole, Nat.zero_mod] at this
    rw [Nat.add_mod_right]; omega
  · have := h.hi; rw [e, ← Nat.add_assoc] at this; exact this
theorem Half.done {n R : Nat} (h : Half n R 0) : sq n = R := sq_is ⟨h.lo, h.hi⟩
theorem Half.below {n R j : Nat} (h : Half n R j) (m : Nat) (hm : n < m * m) : R < m := by
  by_cases c : R < m
  · exact c
  · have := Nat.mul_le_mul (show m ≤ R by omega) (show m ≤ R by omega)
    have := h.lo
    omega
theorem Half.or {n R j : Nat} (h : Half n R (j + 1)) : R ||| 2 ^ j = R + 2 ^ j := by
  have hd := Nat.div_add_mod R (2 ^ (j + 1))
  rw [h.whole, Nat.add_zero] at hd
  have hlt : 2 ^ j < 2 ^ (j + 1) := Nat.pow_lt_pow_right (by omega) (by omega)
  have := Nat.two_pow_add_eq_or_of_lt hlt (R / 2 ^ (j + 1))
  rw [hd] at this
  exact this.symm
end Fx
namespace Gf
def wrap (a : Int) : Int := a % 16777216
def move (a v : Int) : Int := (a + v) % 16777216
def gap (a b : Int) : Int := (b - a + 8388608) % 16777216 - 8388608
def near (g : Int) : Bool := decide (-786432 < g) && decide (g < 786432)
def hits (ax ay bx by' : Int) : Bool := near (gap ax bx) && near (gap ay by')
def push (v s : Int) : Int := Fx.clamp (Fx.cut (v - v.tdiv 16 + 256 * s)) (-524288) 524288
def tame (a : Int) : Int := if a = -128 then -127 else a
def way (a : Int) : Int := if 0 < a then 393216 else if a < 0 then -393216 else 0
def aimx (x y : Int) : Int := if x = 0 ∧ y = 0 then 393216 else way x
def aimy (y : Int) : Int := way y
end Gf
namespace Dn
def next (d : Int) : Int := (d * 6364136223846793005 + 1442695040888963407) % 18446744073709551616
def share (e n : Int) : Int := e / 4294967296 * n / 4294967296
end Dn
namespace Gm
open Go
structure Ship where
  on : Bool
  x : Int
  y : Int
  vx : Int
  vy : Int
  cool : Int
  score : Int
structure Shot where
  owner : Int
  x : Int
  y : Int
  vx : Int
  vy : Int
  left : Int
structure In where
  x : Int
  y : Int
  b : Int
structure G where
  frame : Int
  dice : Int
  ship : Nat → Ship
  shots : List Shot
def Ship.none : Ship := ⟨false, 0, 0, 0, 0, 0, 0⟩
def upd (f : Nat → Ship) (i : Nat) (s : Ship) : Nat → Ship := fun j => if j = i then s else f j
def Ship.cells (s : Ship) : List Value := [.bool s.on, .int .i32 s.x, .int .i32 s.y, .int .i32 s.vx, .int .i32 s.vy, .int .i64 s.cool, .int .i64 s.score]
def Shot.cells (s : Shot) : List Value := [.int .i64 s.owner, .int .i32 s.x, .int .i32 s.y, .int .i32 s.vx, .int .i32 s.vy, .int .i64 s.left]
def In.cells (p : In) : List Value := [.int .i8 p.x, .int .i8 p.y, .int .u8 p.b]
def shipCells (f : Nat → Ship) : List Value := (f 0).cells ++ ((f 1).cells ++ ((f 2).cells ++ ((f 3).cells ++ ((f 4).cells ++ ((f 5).cells ++ ((f 6).cells ++ (f 7).cells))))))
def cells (g : G) (s : Value) : Array Value := ([Value.int .i64 g.frame, Value.int .u64 g.dice] ++ shipCells g.ship ++ [s]).toArray
theorem cells_size (g : G) (s : Value) : (cells g s).size = 59 := rfl
theorem cells_0 (g : G) (s : Value) : (cells g s)[0]? = some (.int .i64 g.frame) := rfl
theorem cells_1 (g : G) (s : Value) : (cells g s)[1]? = some (.int .u64 g.dice) := rfl
def inF (a : Int) : Prop := 0 ≤ a ∧ a < 16777216
def slow (a m : Int) : Prop := -m ≤ a ∧ a ≤ m
def okShip (s : Ship) : Prop := (s.on = true ∨ s = Ship.none) ∧ inF s.x ∧ inF s.y ∧ slow s.vx 524288 ∧ slow s.vy 524288 ∧ 0 ≤ s.cool ∧ s.cool ≤ 10 ∧ 0 ≤ s.score ∧ s.score ≤ 1073741824
def okShot (s : Shot) : Prop := 0 ≤ s.owner ∧ s.owner < 8 ∧ inF s.x ∧ inF s.y ∧ slow s.vx 393216 ∧ slow s.vy 393216 ∧ 1 ≤ s.left ∧ s.left ≤ 24
def ok (g : G) : Prop := 0 ≤ g.frame ∧ g.frame ≤ 1048576 ∧ g.shots.length ≤ 32 ∧ (∀ i, i < 8 → okShip (g.ship i)) ∧ (∀ i (h : i < g.shots.length), okShot g.shots[i])
def i32 (a : Int) : Prop := -2147483648 ≤ a ∧ a ≤ 2147483647
def i64 (a : Int) : Prop := -9223372036854775808 ≤ a ∧ a ≤ 9223372036854775807
def tyShip (s : Ship) : Prop := i32 s.x ∧ i32 s.y ∧ i32 s.vx ∧ i32 s.vy ∧ i64 s.cool ∧ i64 s.score
def tyShot (s : Shot) : Prop := i64 s.owner ∧ i32 s.x ∧ i32 s.y ∧ i32 s.vx ∧ i32 s.vy ∧ i64 s.left
def ty (g : G) : Prop := i64 g.frame ∧ (0 ≤ g.dice ∧ g.dice ≤ 18446744073709551615) ∧ (∀ i, i < 8 → tyShip (g.ship i)) ∧ (∀ i (h : i < g.shots.length), tyShot g.shots[i])
theorem okShip.ty {s : Ship} (h : okShip s) : tyShip s := by
  obtain ⟨_, h1, h2, h3, h4, h5⟩ := h; unfold inF slow at *; unfold tyShip i32 i64; omega
theorem okShot.ty {s : Shot} (h : okShot s) : tyShot s := by
  obtain ⟨h0, h0', h1, h2, h3, h4, h5⟩ := h; unfold inF slow at *; unfold tyShot i32 i64; omega
def placeX (d : Int) : Int := Dn.share (Dn.next d) 16777216
def placeY (d : Int) : Int := Dn.share (Dn.next (Dn.next d)) 16777216
def placeD (d : Int) : Int := Dn.next (Dn.next d)
def hits1 (f : Nat → Ship) (s : Shot) (i : Nat) : Bool := (f i).on && (decide ((i : Int) ≠ s.owner) && Gf.hits s.x s.y (f i).x (f i).y)
def hitFrom (f : Nat → Ship) (s : Shot) : Nat → Nat → Int
  | 0, _ => -1
  | n + 1, i => if hits1 f s i then (i : Int) else hitFrom f s n (i + 1)
def hit (f : Nat → Ship) (s : Shot) : Int := hitFrom f s 8 0
def nvx (p : In) (s : Ship) : Int := Gf.push s.vx (Gf.tame p.x)
def nvy (p : In) (s : Ship) : Int := Gf.push s.vy (Gf.tame p.y)
def nx (p : In) (s : Ship) : Int := Gf.move s.x (nvx p s)
def ny (p : In) (s : Ship) : Int := Gf.move s.y (nvy p s)
def shoots (p : In) (n : Nat) (s : Ship) : Bool := decide (s.cool ≤ 0) && (decide (p.b % 2 = 1) && decide (n < 32))
def moved (p : In) (n : Nat) (s : Ship) : Ship :=
  if s.on = true then ⟨true, nx p s, ny p s, nvx p s, nvy p s, if 0 < s.cool then s.cool - 1 else if shoots p n s = true then 10 else s.cool, s.score⟩ else s
def made (p : In) (n : Nat) (i : Nat) (s : Ship) : List Shot :=
  if s.on = true ∧ shoots p n s = true then [⟨i, nx p s, ny p s, Gf.aimx (Gf.tame p.x) (Gf.tame p.y), Gf.aimy (Gf.tame p.y), 24⟩] else []
def ph1 (ps : Nat → In) (g : G) : Nat → (Nat → Ship) × List Shot
  | 0 => (g.ship, g.shots)
  | k + 1 => (upd (ph1 ps g k).1 k (moved (ps k) (ph1 ps g k).2.length ((ph1 ps g k).1 k)), (ph1 ps g k).2 ++ made (ps k) (ph1 ps g k).2.length k ((ph1 ps g k).1 k))
structure St where
  dice : Int
  ship : Nat → Ship
  left : List Shot
def fly (s : Shot) : Shot := ⟨s.owner, Gf.move s.x s.vx, Gf.move s.y s.vy, s.vx, s.vy, s.left - 1⟩
def anew (d : Int) (f : Nat → Ship) (k : Nat) : Nat → Ship := upd f k ⟨true, placeX d, placeY d, 0, 0, 0, (f k).score⟩
def more (f : Nat → Ship) (o : Nat) : Nat → Ship := if (f o).on = true then upd f o { f o with score := min ((f o).score + 1) 1073741824 } else f
def shot1 (st : St) (s0 : Shot) : St :=
  if (fly s0).left = 0 then st
  else if hit st.ship (fly s0) < 0 then { st with left := st.left ++ [fly s0] }
  else ⟨placeD st.dice, more (anew st.dice st.ship (hit st.ship (fly s0)).toNat) s0.owner.toNat, st.left⟩
def ph2 (st : St) (l : List Shot) : St := l.foldl shot1 st
def step (ps : Nat → In) (g : G) : G :=
  let st := ph2 ⟨g.dice, (ph1 ps g 8).1, []⟩ (ph1 ps g 8).2
  ⟨g.frame + 1, st.dice, st.ship, st.left⟩
def Ship.eqB (s t : Ship) : Bool := s.on == t.on && (s.x == t.x && (s.y == t.y && (s.vx == t.vx && (s.vy == t.vy && (s.cool == t.cool && s.score == t.score)))))
def Shot.eqB (s t : Shot) : Bool := s.owner == t.owner && (s.x == t.x && (s.y == t.y && (s.vx == t.vx && (s.vy == t.vy && s.left == t.left))))
def Eq (g h : G) : Prop := g.frame = h.frame ∧ g.dice = h.dice ∧ (∀ i, i < 8 → g.ship i = h.ship i) ∧ g.shots = h.shots
theorem Eq.refl (g : G) : Eq g g := ⟨rfl, rfl, fun _ _ => rfl, rfl⟩
def tyIn (p : In) : Prop := (-128 ≤ p.x ∧ p.x ≤ 127) ∧ (-128 ≤ p.y ∧ p.y ≤ 127) ∧ (0 ≤ p.b ∧ p.b ≤ 255)
def insCells (f : Nat → In) : List Value := (f 0).cells ++ ((f 1).cells ++ ((f 2).cells ++ ((f 3).cells ++ ((f 4).cells ++ ((f 5).cells ++ ((f 6).cells ++ (f 7).cells))))))
theorem upd_same (f : Nat → Ship) (i : Nat) (s : Ship) : upd f i s i = s := by unfold upd; rw [if_pos rfl]
theorem upd_other (f : Nat → Ship) {i j : Nat} (s : Ship) (h : j ≠ i) : upd f i s j = f j := by unfold upd; rw [if_neg h]
structure Way (f : Nat → Ship) (l : List Shot) : Prop where
  ships : ∀ i, i < 8 → okShip (f i)
  shots : ∀ t ∈ l, okShot t
  len : l.length ≤ 32
theorem ok.way {g : G} (h : ok g) : Way g.ship g.shots := ⟨h.2.2.2.1, fun t ht => by
  obtain ⟨i, hi, rfl⟩ := List.getElem_of_mem ht; exact h.2.2.2.2 i hi, h.2.2.1⟩
end Gm
namespace En
open Go Im
structure Ev where
  kind : Int
  slot : Int
  gen : Int
  peer : Int
structure E where
  frame : Int
  evs : List Ev
  inp : Nat → Gm.In
def Ev.cells (v : Ev) : List Value := [.int .i64 v.kind, .int .i64 v.slot, .int .i64 v.gen, .int .i64 v.peer]
def evCells (l : List Ev) : List Value := l.flatMap Ev.cells
theorem evCells_len (l : List Ev) : (evCells l).length = l.length * 4 := by
  induction l with
  | nil => rfl
  | cons s l ih => unfold evCells at *; rw [List.flatMap_cons, List.length_append, ih, List.length_cons]; simp [Ev.cells]; omega
theorem evCells_at (l : List Ev) (k j : Nat) (hk : k < l.length) (hj : j < 4) : (evCells l)[k * 4 + j]? = l[k].cells[j]? := by
  induction l generalizing k with
  | nil => simp at hk
  | cons s l ih =>
    unfold evCells at *
    rw [List.flatMap_cons]
    match k with
    | 0 => rw [List.getElem?_append_left (by simp [Ev.cells]; omega)]; simp
    | k + 1 =>
      rw [List.getElem?_append_right (by simp [Ev.cells]; omega)]
      have := ih k (by simpa using hk)
      rw [show (k + 1) * 4 + j - s.cells.length = k * 4 + j from by simp [Ev.cells]; omega, this]
      simp
theorem evCells_one (l : List Ev) : ∀ u ∈ evCells l, u.oneCell' = true := by
  intro u hu
  obtain ⟨s, _, hs⟩ := List.mem_flatMap.1 hu
  simp only [Ev.cells, List.mem_cons, List.not_mem_nil, or_false] at hs
  rcases hs with rfl | rfl | rfl | rfl <;> rfl
def cells (e : E) (s : Value) : Array Value := ([Value.int .i64 e.frame, s] ++ Gm.insCells e.inp).toArray
theorem cells_size (e : E) (s : Value) : (cells e s).size = 26 := rfl
theorem cells_0 (e : E) (s : Value) : (cells e s)[0]? = some (.int .i64 e.frame) := rfl
theorem cells_1 (e : E) (s : Value) : (cells e s)[1]? = some s := rfl
theorem cells_in (e : E) (s : Value) (i k : Nat) (hi : i < 8) (hk : k < 3) : (cells e s)[2 + i * 3 + k]? = (e.inp i).cells[k]? := by
  match i, hi with
  | 0, _ => match k, hk with | 0, _ | 1, _ | 2, _ => rfl
  | 1, _ => match k, hk with | 0, _ | 1, _ | 2, _ => rfl
  | 2, _ => match k, hk with | 0, _ | 1, _ | 2, _ => rfl
  | 3, _ => match k, hk with | 0, _ | 1, _ | 2, _ => rfl
  | 4, _ => match k, hk with | 0, _ | 1, _ | 2, _ => rfl
  | 5, _ => match k, hk with | 0, _ | 1, _ | 2, _ => rfl
  | 6, _ => match k, hk with | 0, _ | 1, _ | 2, _ => rfl
  | 7, _ => match k, hk with | 0, _ | 1, _ | 2, _ => rfl
theorem cells_ins (e : E) (s : Value) : ∀ j v, (Gm.insCells e.inp)[j]? = some v → (cells e s)[2 + j]? = some v := fun j v hv => by
  unfold cells
  rw [List.getElem?_toArray, List.getElem?_append_right (by simp)]
  simpa using hv
theorem cells_one (e : E) (s : Value) (h : s.oneCell' = true) : (cells e s).all (·.oneCell') = true := by
  refine Array.all_eq_true_iff_forall_mem.2 fun v hv => ?_
  have hv : v ∈ [Value.int .i64 e.frame, s] ++ Gm.insCells e.inp := by simpa [cells] using hv
  simp only [Gm.insCells, Gm.In.cells, List.mem_append, List.mem_cons, List.not_mem_nil, or_false] at hv
  rcases hv with (rfl | rfl) | hv
  · rfl
  · exact h
  · rcases hv with hv | hv | hv | hv | hv | hv | hv | hv <;> (rcases hv with rfl | rfl | rfl <;> rfl)
def upd (f : Nat → Gm.In) (i : Nat) (p : Gm.In) : Nat → Gm.In := fun j => if j = i then p else f j
theorem upd_same (f : Nat → Gm.In) (i : Nat) (p : Gm.In) : upd f i p i = p := by unfold upd; rw [if_pos rfl]
theorem upd_other (f : Nat → Gm.In) {i j : Nat} (p : Gm.In) (h : j ≠ i) : upd f i p j = f j := by unfold upd; rw [if_neg h]
theorem cells_evs (e : E) (s s' : Value) : (cells e s).setIfInBounds 1 s' = cells e s' := rfl
theorem cells_setin (e : E) (s : Value) (i : Nat) (hi : i < 8) (p : Gm.In) :
    (((cells e s).setIfInBounds (2 + i * 3) (.int .i8 p.x)).setIfInBounds (2 + i * 3 + 1) (.int .i8 p.y)).setIfInBounds (2 + i * 3 + 2) (.int .u8 p.b) = cells { e with inp := upd e.inp i p } s := by
  match i, hi with
  | 0, _ | 1, _ | 2, _ | 3, _ | 4, _ | 5, _ | 6, _ | 7, _ => rfl
def Like (e o : E) : Prop := e.frame = o.frame ∧ e.evs = o.evs ∧ ∀ i, i < 8 → e.inp i = o.inp i
def evOk (v : Ev) : Prop := (v.kind = 2 ∨ v.kind = 1) ∧ (0 ≤ v.slot ∧ v.slot < 8) ∧ (1 ≤ v.gen ∧ v.gen ≤ 60000) ∧ 0 ≤ v.peer ∧ v.peer < 12
instance (v : Ev) : Decidable (evOk v) := by unfold evOk; infer_instance
def place (v : Ev) : Int := if v.kind = 2 then v.slot else 8 + v.slot
def Row : Int → List Ev → Prop
  | _, [] => True
  | last, v :: l => (evOk v ∧ last < place v) ∧ Row (place v) l
instance rowDec : ∀ (last : Int) (l : List Ev), Decidable (Row last l)
  | _, [] => .isTrue trivial
  | last, v :: l => by unfold Row; exact @instDecidableAnd _ _ _ (rowDec (place v) l)
theorem place_lt {v : Ev} (h : evOk v) : 0 ≤ place v ∧ place v < 16 := by
  obtain ⟨h1, h2, _⟩ := h
  unfold place
  split <;> omega
theorem row_len : ∀ (l : List Ev) (last : Int), -1 ≤ last → last < 16 → Row last l → (l.length : Int) ≤ 15 - last
  | [], last, _, h, _ => by simp; omega
  | v :: l, last, h0, h1, h => by
    obtain ⟨⟨h2, h3⟩, h4⟩ := h
    have hp := place_lt h2
    have := row_len l (place v) (by omega) (by omega) h4
    simp only [List.length_cons]
    omega
theorem row_mem : ∀ (l : List Ev) (last : Int), Row last l → ∀ v ∈ l, evOk v
  | v :: l, last, h, u, hu => by
    rcases List.mem_cons.1 hu with rfl | hu
    · exact h.1.1
    · exact row_mem l _ h.2 u hu
def inOk (p : Gm.In) : Prop := -127 ≤ p.x ∧ -127 ≤ p.y
instance (p : Gm.In) : Decidable (inOk p) := by unfold inOk; infer_instance
structure Ok (e : E) : Prop where
  frame : 0 ≤ e.frame ∧ e.frame < 1048576
  row : Row (-1) e.evs
  ins : ∀ i, i < 8 → inOk (e.inp i)
instance (e : E) : Decidable (Ok e) := decidable_of_iff ((0 ≤ e.frame ∧ e.frame < 1048576) ∧ Row (-1) e.evs ∧ ∀ i, i < 8 → inOk (e.inp i)) ⟨fun h => ⟨h.1, h.2.1, h.2.2⟩, fun h => ⟨h.frame, h.row, h.ins⟩⟩
theorem Ok.count {e : E} (h : Ok e) : e.evs.length ≤ 16 := by
  have := row_len e.evs (-1) (by omega) (by omega) h.row
  omega
theorem Ok.like {e o : E} (h : Ok e) (k : Like e o) : Ok o := ⟨k.1 ▸ h.frame, k.2.1 ▸ h.row, fun i hi => k.2.2 i hi ▸ h.ins i hi⟩
def i64 (x : Int) : Prop := -9223372036854775808 ≤ x ∧ x ≤ 9223372036854775807
def tyEv (v : Ev) : Prop := i64 v.kind ∧ i64 v.slot ∧ i64 v.gen ∧ i64 v.peer
structure Ty (e : E) : Prop where
  frame : i64 e.frame
  evs : ∀ v ∈ e.evs, tyEv v
  ins : ∀ i, i < 8 → Gm.tyIn (e.inp i)
theorem evOk.ty {v : Ev} (h : evOk v) : tyEv v := by
  obtain ⟨h1, h2, h3, h4⟩ := h
  unfold tyEv i64
  omega
def zero (p : Gm.In) : Bool := decide (p.x = 0 ∧ p.y = 0 ∧ p.b = 0)
def mask (f : Nat → Gm.In) : Nat → Nat
  | 0 => 0
  | k + 1 => mask f k + (if zero (f k) then 0 else 2 ^ k)
theorem mask_lt (f : Nat → Gm.In) : ∀ k, mask f k < 2 ^ k
  | 0 => by simp [mask]
  | k + 1 => by unfold mask; have := mask_lt f k; rw [Nat.pow_succ]; split <;> omega
theorem mask_bit (f : Nat → Gm.In) : ∀ n k, k < n → (mask f n).testBit k = !zero (f k)
  | n + 1, k, hk => by
    unfold mask
    have hm := mask_lt f n
    by_cases e : k = n
    · subst e
      cases hz : zero (f k)
      · simp only [Bool.false_eq_true, if_false, Bool.not_false]
        rw [Nat.add_comm, Nat.testBit_two_pow_add_eq, Nat.testBit_lt_two_pow hm]
        rfl
      · simp only [if_true, Nat.add_zero, Bool.not_true]
        exact Nat.testBit_lt_two_pow hm
    · have ih := mask_bit f n k (by omega)
      cases hz : zero (f n)
      · simp only [Bool.false_eq_true, if_false]
        rw [Nat.add_comm, Nat.testBit_two_pow_add_gt (by omega), ih]
      · simp only [if_true, Nat.add_zero]
        exact ih
theorem mask_of (f : Nat → Gm.In) (m n : Nat) (h : ∀ k, k < n → (!zero (f k)) = m.testBit k) : mask f n = m % 2 ^ n := by
  apply Nat.eq_of_testBit_eq
  intro i
  rw [Nat.testBit_mod_two_pow]
  by_cases hi : i < n
  · rw [mask_bit f n i hi, h i hi]
    simp [hi]
  · rw [Nat.testBit_lt_two_pow (Nat.lt_of_lt_of_le (mask_lt f n) (Nat.pow_le_pow_right (by decide) (by omega)))]
    simp [hi]
def evBytes (v : Ev) : List Int := bytesOf 1 v.kind ++ (bytesOf 1 v.slot ++ (bytesOf 2 v.gen ++ bytesOf 1 v.peer))
def evsBytes (l : List Ev) : List Int := l.flatMap evBytes
def inBytes (p : Gm.In) : List Int := bytesOf 1 p.x ++ (bytesOf 1 p.y ++ bytesOf 1 p.b)
def insBytes (f : Nat → Gm.In) : Nat → List Int
  | 0 => []
  | k + 1 => insBytes f k ++ (if zero (f k) then [] else inBytes (f k))
theorem evBytes_len (v : Ev) : (evBytes v).length = 5 := by unfold evBytes; simp only [List.length_append, bytesOf_len]
theorem inBytes_len (p : Gm.In) : (inBytes p).length = 3 := by unfold inBytes; simp only [List.length_append, bytesOf_len]
theorem evsBytes_len (l : List Ev) : (evsBytes l).length = 5 * l.length := by
  induction l with
  | nil => rfl
  | cons s l ih => unfold evsBytes at *; rw [List.flatMap_cons, List.length_append, ih, evBytes_len, List.length_cons]; omega
theorem evsBytes_snoc (l : List Ev) (k : Nat) (h : k < l.length) : evsBytes (l.take (k + 1)) = evsBytes (l.take k) ++ evBytes l[k] := by
  unfold evsBytes
  rw [List.take_succ_eq_append_getElem h, List.flatMap_append]
  simp
theorem insBytes_le (f : Nat → Gm.In) : ∀ k, (insBytes f k).length ≤ 3 * k
  | 0 => Nat.le_refl _
  | k + 1 => by
    unfold insBytes
    have := insBytes_le f k
    rw [List.length_append]
    split
    · simp; omega
    · rw [inBytes_len]; omega
def put (e : E) : List Int := bytesOf 4 e.frame ++ ((bytesOf 1 e.evs.length ++ evsBytes e.evs) ++ (bytesOf 1 (mask e.inp 8) ++ insBytes e.inp 8))
theorem put_le {e : E} (h : e.evs.length ≤ 16) : (put e).length ≤ 110 := by
  have h1 := evsBytes_len e.evs
  have h2 := insBytes_le e.inp 8
  unfold put
  simp only [List.length_append, bytesOf_len]
  omega
theorem bytesOf_wrap1 (x : Int) : bytesOf 1 (IntKind.u64.wrap x) = bytesOf 1 x := by
  unfold bytesOf bytesOf
  rw [IntKind.wrap_u64]
  simp only [Nat.mul_zero, List.nil_append, List.cons.injEq, and_true]
  omega
theorem put_bytes (e : E) : IsBytes (put e) := by
  have b1 : ∀ l : List Ev, IsBytes (evsBytes l) := fun l x hx => by
    obtain ⟨v, _, hx⟩ := List.mem_flatMap.1 hx
    exact ((bytesOf_bytes 1 _).app ((bytesOf_bytes 1 _).app ((bytesOf_bytes 2 _).app (bytesOf_bytes 1 _)))) x hx
  have b2 : ∀ k, IsBytes (insBytes e.inp k) := fun k => by
    induction k with
    | zero => exact IsBytes.nil
    | succ k ih =>
      unfold insBytes
      refine ih.app ?_
      split
      · exact IsBytes.nil
      · exact (bytesOf_bytes 1 _).app ((bytesOf_bytes 1 _).app (bytesOf_bytes 1 _))
  exact (bytesOf_bytes 4 _).app (((bytesOf_bytes 1 _).app (b1 _)).app ((bytesOf_bytes 1 _).app (b2 8)))
end En