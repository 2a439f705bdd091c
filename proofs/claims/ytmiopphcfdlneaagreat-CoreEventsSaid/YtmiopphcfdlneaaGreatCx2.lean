/-
Several texts in one: Ib Ic Nl Id Fx Gf Dn Gm Gr Gb Gp.
-/
import Derived.Test.YtmiopphcfdlneaaGreatCx1
set_option maxRecDepth 100000
set_option maxHeartbeats 8000000
set_option linter.unusedVariables false
set_option linter.unusedSimpArgs false
namespace Go.Proofs.YtmiopphcfdlneaaGreat
open Go.RowKit Go.Shelf
theorem qki {P : Program} (w : World) {t ty e : TypeId} {i : TypeInfo} {z : Value} {size bytes : Nat} (ht : P.underlying t = some (.slice e)) (hi : P.info? e = some i) (hz : i.zero = some z) (hs : i.size = size) (hby : i.bytes = bytes) (hzs : z.cells.size = size) (hsz : 0 < size)
 {base n : Nat} {v : Value} {xs : List Value} (ho : w.ownsRow base e size v n xs) {ad : Addr} {m c : Nat} {news : List Value} (hl : Lies w w.heap.size size (some ad) m news) (hm : m ≠ 0) (h1 : ∀ u ∈ news, u.oneCell' = true) (h63 : n + m <= maxLen) (hb : (n + m) * bytes <= 140737488355328) (hbase : base <= w.heap.size) :
 ∃ A' c' w', (Builtin.append_ #[t, t] ty #[v, .slice (some ad) m c]).run P w = .ok (.slice A' (n + m) c') w' /\ w'.ownsRow base e size (.slice A' (n + m) c') (n + m) (xs ++ news) /\ w.grownBy w' v.ownBlock := by
 obtain ⟨v', w', hr, h2, h3, _, _⟩ := run_append_own_at (P := P) w base t ty e i z size bytes ht hi hz hs hby hzs hsz v n xs ho ad m c news hl.len (fun j u hu => hl.cell ad rfl hm j u hu) h1 h63 hb hbase
 obtain ⟨A', c', rfl⟩ := qeq h2
 exact ⟨A', c', w', hr, h2, h3⟩
theorem qj0 {P : Program} {o : Oper} {a : Act} {x y : Operand} {ts : Array TypeId} {W W' : World} {v1 v2 r : Value} (ho : o.op = .call { callee := .builtin .append, args := #[x, y], argTypes := ts }) (hx : a.eval x = v1) (hy : a.eval y = v2) (hr : (Builtin.append_ ts o.type #[v1, v2]).run P W = .ok r W') :
 (execOp a.eval o).run P W = .ok (.value r) W' := by
 unfold execOp
 simp only [ho, resolve, invoke, builtin, Sem.run_bind, Sem.run_pure, Result.andThen_ok, List.map_toArray, List.map_cons, List.map_nil, hx, hy, hr]
theorem qp7 : (Tryz.prog.info? 5).map (fun i => (i.zero, i.size, i.bytes)) = some (some (.int .u8 0), 1, 1) := by kernel_rfl
theorem qoX : ∃ i, Tryz.prog.info? 5 = some i /\ i.zero = some (.int .u8 0) /\ i.size = 1 /\ i.bytes = 1 := by
 have h := qp7
 cases hq : Tryz.prog.info? 5 with
 | none => rw [hq] at h; cases h
 | some i =>
  rw [hq] at h
  simp only [Option.map_some, Option.some.injEq, Prod.mk.injEq] at h
  exact ⟨i, rfl, h.1, h.2.1, h.2.2⟩
theorem qog (w : World) (x : Int) : Lies (w.alloc (.cells #[.int .u8 x] 5)) (w.alloc (.cells #[.int .u8 x] 5)).heap.size 1 (some ⟨w.heap.size, 0, none⟩) 1 (Im.u8s [x]) := by
 refine ⟨rfl, fun _ => ⟨_, rfl, by simp⟩, fun ad e _ j u hu => ?_⟩
 injection e with e
 subst e
 have hadd : (⟨w.heap.size, 0, none⟩ : Addr).add j = ⟨w.heap.size, j, none⟩ := by unfold Addr.add; split <;> simp_all
 rw [hadd, (Box.made w _ _).cell j, <- hu]
 simp [Im.u8s]
theorem qgj (size : Nat) (v : Int) (bs : List Int) (b Bb Bp : Nat) (w : World) (hs : size <= 8) (hv : 0 <= v /\ v <= 18446744073709551615) (hbB : b <= Bb) (h : Wr b Bb Bp bs w) (hl : bs.length + size <= 65536) :
 Calls Tryz.prog 174 #[.int .i64 size, .int .u64 v, .pointer (some ⟨Bp, 0, none⟩)] w fun e w' => e = .returned (.int .u64 v) /\ Wr b Bb Bp (bs ++ Im.bytesOf size v) w' /\ Wrote b Bb w w' := by
 have HH := qh h
 clear h
 go_enter Tryz.func174, Tryz.ntmps174
 go_wp2
 go_loopw [8] (fun i wr => ∃ k : Nat, k <= size /\ i = .int .i64 k /\ Wr b Bb Bp (bs ++ Im.bytesOf k v) wr /\ Wrote b Bb w wr) (fun i _ => size - (intOf i).toNat)
 case atStart => exact ⟨0, by omega, rfl, by simpa [Im.bytesOf] using HH.out, Wrote.refl hbB w⟩
 case round =>
  obtain ⟨k, hk, rfl, hI, hK⟩ := hrel
  by_cases hlt : k < size
  · have hk8 : (k : Int) < size := by omega
    obtain ⟨A, c, hB, hO⟩ := hI.var
    have hP := hI.ptr
    have hlen : (bs ++ Im.bytesOf k v).length = bs.length + k := by rw [List.length_append, Im.qaw]
    rw [hlen] at hB hO
    generalize hn : bs.length + k = n at *
    have HI := qh hI
    have HK := qh hK
    have HP := qh hP
    have HB := qh hB
    have HO := qh hO
    clear hI hP hB hO hK
    have h8 : IntKind.i64.wrap (8 * (k : Int)) = 8 * k := by rw [IntKind.wrap_i64]; omega
    have hq : 0 <= v / 2 ^ (8 * k) /\ v / 2 ^ (8 * k) <= 18446744073709551615 := by
     have hp : (0 : Int) < 2 ^ (8 * k) := Int.pow_pos (by decide)
     exact ⟨Int.ediv_nonneg hv.1 (Int.le_of_lt hp), Int.le_trans (Int.ediv_le_self _ hv.1) hv.2⟩
    obtain ⟨x, hx⟩ : ∃ x, x = v / 2 ^ (8 * k) % 256 := ⟨_, rfl⟩
    have hsn : bs ++ Im.bytesOf (k + 1) v = (bs ++ Im.bytesOf k v) ++ [x] := by rw [hx]; simp [Im.bytesOf]
    have hxw : IntKind.u8.wrap (v / 2 ^ (8 * (k : Int)).toNat) = x := by rw [show (8 * (k : Int)).toNat = 8 * k by omega, IntKind.wrap_u8, hx]
    have HSN := qh hsn
    clear hsn hx
    go_upto_region 4 with fail
    refine Rx.qhq (by kernel_rfl) [] (by kernel_rfl) (· = wr.drew) (fun W => Box W Bp 198 #[.pointer (some ⟨Bb, 0, none⟩)] /\ Box W Bb 165 #[.slice A n c]) (fun _ => True) rfl (fun W hW => ⟨hW ▸ ⟨HP.out.drew, HB.out.drew⟩, trivial⟩) ?_
    repeat (first
     | (apply Rx.qbg rfl rfl; focus (intro _; go_simp; first | done | rfl))
     | (apply Rx.qcy rfl rfl rfl rfl; focus (intro W hW; obtain ⟨hW1, hW2⟩ := hW; have c0 := Box.cell hW1; have c1 := Box.cell hW2; clear hW1 hW2; go_simp; first | done | rfl)))
    obtain ⟨i0, hi0, hz0, hz1, hz2⟩ := qoX
    have szb : b <= wr.heap.size := Nat.le_trans hbB (Nat.le_of_lt HB.out.lt)
    obtain ⟨A2, c2, w2, hrun, own2, hg2⟩ := qki (P := Tryz.prog) _ (ty := 165) Tryz.underlying165 hi0 hz0 hz1 hz2 rfl (by decide) ((HO.out.drew).alloc (.cells #[.int .u8 x] 5)) (c := 1) (qog wr.drew x) (by decide) (Im.qp6 _) (by unfold maxLen; omega) (by omega) (by simp; omega)
    have B2 := qh (qcf HB.out.drew HO.out.drew (by decide) hg2)
    have P2 := qh (qcf HP.out.drew HO.out.drew (by decide) hg2)
    have K2 := qh (HK.out.drew.grown' HO.out.drew hg2)
    have OW := qh own2
    have neP : Bp ≠ Bb := HI.out.ne
    clear own2 hg2
    refine Rx.qdA rfl (W' := wr.drew.alloc (.cells #[.int .u8 x] 5)) (v := .slice (some ⟨wr.drew.heap.size, 0, none⟩) 1 1) ?_ ⟨⟨HP.out.drew.alloc _, HB.out.drew.alloc _⟩, trivial⟩ ?_
    focus (go_simp; first | done | rfl)
    refine Rx.qdA rfl (W' := w2) (v := .slice A2 (n + 1) c2) (qj0 (x := .tmp 14) (y := .tmp 20) (v1 := .slice A n c) (v2 := .slice (some ⟨wr.drew.heap.size, 0, none⟩) 1 1) rfl (by go_simp) (by go_simp) hrun) ⟨⟨P2.out, B2.out⟩, trivial⟩ ?_
    repeat (first
     | (apply Rx.qbg rfl rfl; focus (intro _; go_simp; first | done | rfl))
     | (apply Rx.qcy rfl rfl rfl rfl; focus (intro W hW; obtain ⟨hW1, hW2⟩ := hW; have c0 := Box.cell hW1; have c1 := Box.cell hW2; clear hW1 hW2; go_simp; first | done | rfl)))
    refine Rx.qbI rfl rfl (C' := (· = w2.setCell ⟨Bb, 0, none⟩ (.slice A2 (n + 1) c2))) (D' := fun _ => True) (fun W hW => ⟨_, ?_, rfl⟩) (fun _ _ => ⟨trivial, trivial⟩) ?_
    focus (subst hW; have f2 := B2.out.free; have k2 := B2.out.cell; go_simp; first | done | rfl)
    refine Rx.qcd fun W2 hW2 => ?_
    have ne2 := B2.out.qaM OW.out (by decide)
    have H3 : Wr b Bb Bp (bs ++ Im.bytesOf (k + 1) v) W2 := by
     subst hW2
     have hlen3 : ((bs ++ Im.bytesOf k v) ++ [x]).length = n + 1 := by rw [List.length_append, hlen]; rfl
     rw [HSN.out]
     refine ⟨P2.out.far (by show Bp ≠ Bb; exact neP) _, A2, c2, ?_, ?_⟩
     · rw [hlen3]; exact B2.out.put 0 _
     · rw [hlen3, Im.ql7]; exact ownsRow_setCell_other (a := ⟨Bb, 0, none⟩) OW.out ne2 _
    have K3 : Wrote b Bb w W2 := by subst hW2; exact K2.out.put _ _
    have H4 := qh H3
    have K4 := qh K3
    clear H3 K3 hW2 hrun ne2 hlen
    go_wp2
    go_roundw
    case rel => exact ⟨k + 1, by omega, by go_num, H4.out, K4.out⟩
    case measure => simp [intOf]; omega
  · have hk8 : ¬ (k : Int) < size := by omega
    obtain rfl : k = size := by omega
    have HI := qh hI
    have HK := qh hK
    clear hI hK
    go_wp2
    go_ret
    exact ⟨rfl, HI.out, HK.out⟩
theorem qdQ {w : World} {P o : Nat} {t : TypeId} {cs : Array Value} {u : Value} (h : Box w P t cs) (ho : cs[o]? = some u) (k : Nat) : (w.setCell ⟨P, o, none⟩ u).heap[k]? = w.heap[k]? := by
 by_cases e : k = P
 · subst e
   rw [(h.put o u).is, h.is]
   congr 2
   obtain ⟨hlt, he⟩ := Array.getElem?_eq_some_iff.1 ho
   apply Array.ext
   · simp
   · intro i h1 h2
     rw [Array.getElem_setIfInBounds]
     split
     · rename_i e; subst e; exact he.symm
     · rfl
 · exact heap_setCell_other w ⟨P, o, none⟩ k u e
section
variable {b Bb Bp : Nat} {bs : List Int} {w0 w : World}
theorem Wrote.noop {P o : Nat} {t : TypeId} {cs : Array Value} {u : Value} (h : Wrote b Bb w0 w) (hB : Box w P t cs) (ho : cs[o]? = some u) : Wrote b Bb w0 (w.setCell ⟨P, o, none⟩ u) := by
 have hz := (Below.refl 0 w).setCell (p := ⟨P, o, none⟩) (Nat.zero_le _) u
 exact ⟨hz.os.trans h.os, hz.tape.trans h.tape, hz.output.trans h.output, Nat.le_trans h.size hz.size, h.low, fun k hk hc => (qdQ hB ho k).trans (h.block k hk hc)⟩
theorem Box.qbD {g : Nat} {t : TypeId} {cs : Array Value} (h : Box w0 g t cs) (k : Wrote b Bb w0 w) (hv : ∃ A n c, Box w0 Bb 165 #[.slice A n c]) (h1 : t ≠ 165) (h2 : t ≠ 5) : Box w g t cs := by
 obtain ⟨A, n, c, hv⟩ := hv
 exact h.wrote k (Box.apart h hv h1) h2
theorem Wr.qcO (h : Wr b Bb Bp bs w) : ∃ A n c, Box w Bb 165 #[.slice A n c] := by
 obtain ⟨_, A, c, h, _⟩ := h
 exact ⟨A, _, c, h⟩
end
theorem qce (size : Nat) (z : Int) (hz : z = size) (x : Int) (P o : Nat) (t : TypeId) (cs : Array Value) (bs : List Int) (b Bb Bp : Nat) (w : World) (hs : size <= 8) (hx : -9223372036854775808 <= x /\ x <= 9223372036854775807) (hbB : b <= Bb) (h : Wr b Bb Bp bs w) (hl : bs.length + size <= 65536) (hP : Box w P t cs) (ho : cs[o]? = some (.int .i64 x)) (h1 : t ≠ 165) (h2 : t ≠ 5) (h3 : t ≠ 198) :
 Calls Tryz.prog 168 #[.func (.func 174) #[] #[.pointer (some ⟨Bp, 0, none⟩)], .int .i64 z, .pointer (some ⟨P, o, none⟩)] w fun e w' => e = .returned (.tuple #[]) /\ Wr b Bb Bp (bs ++ Im.bytesOf size (IntKind.u64.wrap x)) w' /\ Wrote b Bb w w' := by
 subst hz
 have hwb : IntKind.i64.wrap (IntKind.u64.wrap x) = x := by rw [IntKind.wrap_i64, IntKind.wrap_u64]; omega
 have hvr : 0 <= IntKind.u64.wrap x /\ IntKind.u64.wrap x <= 18446744073709551615 := by rw [IntKind.wrap_u64]; omega
 obtain ⟨v, hv⟩ : ∃ v, v = IntKind.u64.wrap x := ⟨_, rfl⟩
 rw [<- hv] at hwb hvr ⊢
 have cw := qh (qgj size v bs b Bb Bp w hs hvr hbB h hl)
 have HH := qh h
 have HP := qh hP
 have hvv : IntKind.u64.wrap x = v := hv.symm
 clear hv
 have k0 := hP.cell o
 rw [ho] at k0
 have HO := qh ho
 clear h hP ho
 go_enter Tryz.func168, Tryz.ntmps168
 go_wp2_with (go_at_call 174; ((with_reducible refine (cw.out).mono ?_); rintro e w1 ⟨rfl, hI1, hK1⟩; have P1 := qh (HP.out.qbD hK1 HH.out.qcO h1 h2); have I1 := qh hI1; have K1 := qh hK1; have k1 := P1.out.cell o; rw [HO.out] at k1; have f1 := P1.out.free o; clear hI1 hK1 k0))
 go_end0
 exact ⟨rfl, I1.out.off (p := ⟨P, o, none⟩) P1.out h3 h1 h2 _, K1.out.noop P1.out HO.out⟩
theorem qpx (size : Nat) (z : Int) (hz : z = size) (x : Int) (P o : Nat) (t : TypeId) (cs : Array Value) (bs : List Int) (b Bb Bp : Nat) (w : World) (hs : size <= 8) (hx : 0 <= x /\ x <= 18446744073709551615) (hbB : b <= Bb) (h : Wr b Bb Bp bs w) (hl : bs.length + size <= 65536) (hP : Box w P t cs) (ho : cs[o]? = some (.int .u64 x)) (h1 : t ≠ 165) (h2 : t ≠ 5) (h3 : t ≠ 198) :
 Calls Tryz.prog 169 #[.func (.func 174) #[] #[.pointer (some ⟨Bp, 0, none⟩)], .int .i64 z, .pointer (some ⟨P, o, none⟩)] w fun e w' => e = .returned (.tuple #[]) /\ Wr b Bb Bp (bs ++ Im.bytesOf size (x)) w' /\ Wrote b Bb w w' := by
 subst hz
 have hvr := hx
 obtain ⟨v, hv⟩ : ∃ v, v = x := ⟨_, rfl⟩
 rw [<- hv] at hvr ⊢
 have cw := qh (qgj size v bs b Bb Bp w hs hvr hbB h hl)
 have HH := qh h
 have HP := qh hP
 subst hv
 have k0 := hP.cell o
 rw [ho] at k0
 have HO := qh ho
 clear h hP ho
 go_enter Tryz.func169, Tryz.ntmps169
 go_wp2_with (go_at_call 174; ((with_reducible refine (cw.out).mono ?_); rintro e w1 ⟨rfl, hI1, hK1⟩; have P1 := qh (HP.out.qbD hK1 HH.out.qcO h1 h2); have I1 := qh hI1; have K1 := qh hK1; have k1 := P1.out.cell o; rw [HO.out] at k1; have f1 := P1.out.free o; clear hI1 hK1 k0))
 go_end0
 exact ⟨rfl, I1.out.off (p := ⟨P, o, none⟩) P1.out h3 h1 h2 _, K1.out.noop P1.out HO.out⟩
theorem qpy (size : Nat) (z : Int) (hz : z = size) (x : Int) (P o : Nat) (t : TypeId) (cs : Array Value) (bs : List Int) (b Bb Bp : Nat) (w : World) (hs : size <= 8) (hx : -2147483648 <= x /\ x <= 2147483647) (hbB : b <= Bb) (h : Wr b Bb Bp bs w) (hl : bs.length + size <= 65536) (hP : Box w P t cs) (ho : cs[o]? = some (.int .i32 x)) (h1 : t ≠ 165) (h2 : t ≠ 5) (h3 : t ≠ 198) :
 Calls Tryz.prog 201 #[.func (.func 174) #[] #[.pointer (some ⟨Bp, 0, none⟩)], .int .i64 z, .pointer (some ⟨P, o, none⟩)] w fun e w' => e = .returned (.tuple #[]) /\ Wr b Bb Bp (bs ++ Im.bytesOf size (IntKind.u64.wrap x)) w' /\ Wrote b Bb w w' := by
 subst hz
 have hwb : IntKind.i32.wrap (IntKind.u64.wrap x) = x := by rw [IntKind.wrap_i32, IntKind.wrap_u64]; omega
 have hvr : 0 <= IntKind.u64.wrap x /\ IntKind.u64.wrap x <= 18446744073709551615 := by rw [IntKind.wrap_u64]; omega
 obtain ⟨v, hv⟩ : ∃ v, v = IntKind.u64.wrap x := ⟨_, rfl⟩
 rw [<- hv] at hwb hvr ⊢
 have cw := qh (qgj size v bs b Bb Bp w hs hvr hbB h hl)
 have HH := qh h
 have HP := qh hP
 have hvv : IntKind.u64.wrap x = v := hv.symm
 clear hv
 have k0 := hP.cell o
 rw [ho] at k0
 have HO := qh ho
 clear h hP ho
 go_enter Tryz.func201, Tryz.ntmps201
 go_wp2_with (go_at_call 174; ((with_reducible refine (cw.out).mono ?_); rintro e w1 ⟨rfl, hI1, hK1⟩; have P1 := qh (HP.out.qbD hK1 HH.out.qcO h1 h2); have I1 := qh hI1; have K1 := qh hK1; have k1 := P1.out.cell o; rw [HO.out] at k1; have f1 := P1.out.free o; clear hI1 hK1 k0))
 go_end0
 exact ⟨rfl, I1.out.off (p := ⟨P, o, none⟩) P1.out h3 h1 h2 _, K1.out.noop P1.out HO.out⟩
theorem qiC (s : ByteArray) (w : World) : Calls Tryz.prog 141 #[.bool true, .string s] w fun e w' => e = .returned (.tuple #[]) /\ w = w' := by
 go_enter Tryz.func141, Tryz.ntmps141
 go_wp2
 go_end0
 exact ⟨rfl, rfl⟩
theorem qqj (s : ByteArray) (w : World) : Calls Tryz.prog 141 #[.bool false, .string s] w fun e w' => e = .panicked [{ v := .iface 9 (.string s), recovered := false }] /\ w = w' := by
 go_enter Tryz.func141, Tryz.ntmps141
 go_wp2
 first | exact ⟨rfl, rfl, rfl⟩ | exact ⟨rfl, rfl⟩
theorem Wr.nil {b Bb Bp : Nat} {W : World} (h1 : Box W Bp 198 #[.pointer (some ⟨Bb, 0, none⟩)]) (h2 : Box W Bb 165 #[.slice none 0 0]) : Wr b Bb Bp [] W :=
 ⟨h1, none, 0, h2, World.ownsRow_nil _ _ _ _⟩
theorem ql5 (p : Addr) (w : World) : Calls Tryz.prog 144 #[.pointer (some p)] w fun e w' => e = .returned (.func (.func 174) #[] #[.pointer (some ⟨w.heap.size, 0, none⟩)]) /\ w' = w.alloc (.cells #[.pointer (some p)] 198) := by
 have hmf : ∀ (fn : Fn) (first cap : Array Value) (w : World), (Instr.makeFunc fn first cap).run Tryz.prog w = .ok (.func fn first cap) w := fun _ _ _ _ => rfl
 go_enter Tryz.func144, Tryz.ntmps144
 go_wp2
 go_ret
 exact ⟨rfl, rfl⟩
def Kb (B : Nat) (w w' : World) : Prop := ∀ g t cs, Box w g t cs -> g ≠ B -> t ≠ 165 -> t ≠ 5 -> Box w' g t cs
section
variable {B b Bb Bp : Nat} {bs : List Int} {w w' w'' : World}
theorem Kb.refl (w : World) : Kb B w w := fun _ _ _ h _ _ _ => h
theorem Kb.trans (h : Kb B w w') (k : Kb B w' w'') : Kb B w w'' := fun g t cs hg hne h1 h2 => k g t cs (h g t cs hg hne h1 h2) hne h1 h2
theorem Kb.call (h : Kb B w w') (hb : Below w'.heap.size w' w'') : Kb B w w'' := fun g t cs hg hne h1 h2 => (h g t cs hg hne h1 h2).below hb (h g t cs hg hne h1 h2).lt
theorem Kb.wrote (h : Kb B w w') (hW : Wrote b Bb w' w'') (hv : ∃ A n c, Box w' Bb 165 #[.slice A n c]) : Kb B w w'' := fun g t cs hg hne h1 h2 => (h g t cs hg hne h1 h2).qbD hW hv h1 h2
theorem Kb.put (h : Kb B w w') (i : Nat) (u : Value) : Kb B w (w'.setCell ⟨B, i, none⟩ u) := fun g t cs hg hne h1 h2 => (h g t cs hg hne h1 h2).far (p := ⟨B, i, none⟩) hne u
end
def Im.flight (x : Nat -> Int) : Nat -> List Int
 | 0 => []
 | k + 1 => Im.flight x k ++ Im.bytesOf 4 (IntKind.u64.wrap (x k))
theorem Im.qcU (x : Nat -> Int) : ∀ k, (Im.flight x k).length = 4 * k
 | 0 => rfl
 | k + 1 => by show (Im.flight x k ++ _).length = _; rw [List.length_append, Im.qcU x k, Im.qaw]; omega
theorem qgX (x : Nat -> Int) (p : Nat -> Nat) (P Bq : Nat) (t : TypeId) (cs : Array Value) (bs : List Int) (b Bb Bp : Nat) (w : World) (hx : ∀ k, k < 4 -> -2147483648 <= x k /\ x k <= 2147483647) (hbB : b <= Bb) (h : Wr b Bb Bp bs w) (hl : bs.length + 16 <= 65536) (hP : Box w P t cs) (ho : ∀ k, k < 4 -> cs[p k]? = some (.int .i32 (x k))) (h1 : t ≠ 165) (h2 : t ≠ 5) (h3 : t ≠ 198)
 (hq : Box w Bq 225 #[.pointer (some ⟨P, p 0, none⟩), .pointer (some ⟨P, p 1, none⟩), .pointer (some ⟨P, p 2, none⟩), .pointer (some ⟨P, p 3, none⟩)]) (c : Nat) :
 Calls Tryz.prog 192 #[.func (.func 174) #[] #[.pointer (some ⟨Bp, 0, none⟩)], .slice (some ⟨Bq, 0, none⟩) 4 c] w fun e w' => e = .returned (.tuple #[]) /\ Wr b Bb Bp (bs ++ Im.flight x 4) w' /\ Wrote b Bb w w' := by
 have HH := qh h
 have HP := qh hP
 have HQ := qh hq
 clear h hP hq
 go_enter Tryz.func192, Tryz.ntmps192
 go_wp2
 go_loopw [8] (fun i wr => ∃ k : Nat, k <= 4 /\ i = .int .i64 k /\ Wr b Bb Bp (bs ++ Im.flight x k) wr /\ Wrote b Bb w wr) (fun i _ => 4 - (intOf i).toNat)
 case atStart => exact ⟨0, by omega, rfl, by simpa [Im.flight] using HH.out, Wrote.refl hbB w⟩
 case round =>
  obtain ⟨k, hk, rfl, hI, hK⟩ := hrel
  by_cases hlt : k < 4
  · have hk8 : (k : Int) < 4 := by omega
    have P1 := HP.out.qbD hK HH.out.qcO h1 h2
    have Q1 := HQ.out.qbD hK HH.out.qcO (by decide) (by decide)
    have qc := Q1.cell k
    have hqk : (#[.pointer (some ⟨P, p 0, none⟩), .pointer (some ⟨P, p 1, none⟩), .pointer (some ⟨P, p 2, none⟩), .pointer (some ⟨P, p 3, none⟩)] : Array Value)[k]? = some (.pointer (some ⟨P, p k, none⟩)) := by
     match k, hlt with
     | 0, _ | 1, _ | 2, _ | 3, _ => rfl
    rw [hqk] at qc
    have cl := qh (qpy 4 4 rfl (x k) P (p k) t cs (bs ++ Im.flight x k) b Bb Bp wr (by decide) (hx k hlt) hbB hI (by rw [List.length_append, Im.qcU]; omega) P1 (ho k hlt) h1 h2 h3)
    rw [List.append_assoc, show Im.flight x k ++ Im.bytesOf 4 (IntKind.u64.wrap (x k)) = Im.flight x (k + 1) from rfl] at cl
    have HK := qh hK
    clear hI hK P1 Q1 hqk
    go_wp2_with (go_at_call 201; ((with_reducible refine (cl.out).mono ?_); rintro e w1 ⟨rfl, hI1, hK1⟩; have I1 := qh hI1; have K1 := qh (HK.out.trans hK1); clear hI1 hK1 qc))
    go_roundw
    case rel => exact ⟨k + 1, by omega, by go_num, I1.out, K1.out⟩
    case measure => simp [intOf]; omega
  · have hk8 : ¬ (k : Int) < 4 := by omega
    obtain rfl : k = 4 := by omega
    have HI := qh hI
    have HK := qh hK
    clear hI hK
    go_wp2
    go_end0
    exact ⟨rfl, HI.out, HK.out⟩
theorem qoj (pe g : Int) (P o : Nat) (t : TypeId) (cs : Array Value) (bs : List Int) (b Bb Bp : Nat) (w : World) (hpe : -1 <= pe /\ pe <= 60000) (hg : 0 <= g /\ g <= 60000) (hbB : b <= Bb) (h : Wr b Bb Bp bs w) (hl : bs.length + 3 <= 65536) (hP : Box w P t cs) (ho : cs[o]? = some (.int .i64 pe)) (ho1 : cs[o + 1]? = some (.int .i64 g)) (h1 : t ≠ 165) (h2 : t ≠ 5) (h3 : t ≠ 198) :
 Calls Tryz.prog 173 #[.func (.func 174) #[] #[.pointer (some ⟨Bp, 0, none⟩)], .pointer (some ⟨P, o, none⟩)] w fun e w' => e = .returned (.tuple #[]) /\ Wr b Bb Bp (bs ++ (Im.bytesOf 1 (pe + 1) ++ Im.bytesOf 2 g)) w' /\ Wrote b Bb w w' := by
 have hw1 : IntKind.i64.wrap (pe + 1) = pe + 1 := by rw [IntKind.wrap_i64]; omega
 have hw2 : IntKind.u64.wrap (pe + 1) = pe + 1 := by rw [IntKind.wrap_u64]; omega
 have hw3 : IntKind.u64.wrap g = g := by rw [IntKind.wrap_u64]; omega
 have hw4 : IntKind.i64.wrap (pe + 1 - 1) = pe := by rw [IntKind.wrap_i64]; omega
 have k0 := hP.cell o
 rw [ho] at k0
 have HP := qh hP
 have HL := qh (Box.made w 3 #[.int .i64 (pe + 1)])
 have HPA := qh (hP.alloc (.cells #[.int .i64 (pe + 1)] 3))
 have HA := qh (h.alloc (.cells #[.int .i64 (pe + 1)] 3))
 have WA := qh ((Wrote.refl hbB w).alloc (.cells #[.int .i64 (pe + 1)] 3))
 have c1 := qh (qce 1 1 rfl (pe + 1) w.heap.size 0 3 #[.int .i64 (pe + 1)] bs b Bb Bp _ (by decide) (by omega) hbB HA.out (by omega) HL.out rfl (by decide) (by decide) (by decide))
 have c2 := fun X (hX : Wr b Bb Bp (bs ++ Im.bytesOf 1 (pe + 1)) X) (hB : Box X P t cs) => qh (qce 2 2 rfl g P (o + 1) t cs (bs ++ Im.bytesOf 1 (pe + 1)) b Bb Bp X (by decide) (by omega) hbB hX (by rw [List.length_append, Im.qaw]; omega) hB ho1 h1 h2 h3)
 rw [hw2] at c1
 rw [hw3] at c2
 have hvar := qh HA.out.qcO
 have HO := qh ho
 have ltP := hP.lt
 clear h hP ho ho1 hw2 hw3
 go_enter Tryz.func173, Tryz.ntmps173
 go_upto_region 3 with (go_at_call 168; ((with_reducible refine (c1.out).mono ?_); rintro e w1 ⟨rfl, hI1, hK1⟩; have L1 := HL.out.qbD hK1 hvar.out (by decide) (by decide); have l1 := L1.cell 0; have P1 := qh (HPA.out.qbD hK1 hvar.out h1 h2); have p1 := P1.out.cell o; rw [HO.out] at p1; have f1 := P1.out.free o; have I1 := qh hI1; have K1 := qh (WA.out.trans hK1); clear hI1 hK1 L1 k0))
 obtain ⟨U, hU⟩ : ∃ U, U = w1.setCell ⟨P, o, none⟩ (.int .i64 pe) := ⟨_, rfl⟩
 have IU : Wr b Bb Bp (bs ++ Im.bytesOf 1 (pe + 1)) U := by rw [hU]; exact I1.out.off (p := ⟨P, o, none⟩) P1.out h3 h1 h2 _
 have KU : Wrote b Bb w U := by rw [hU]; exact K1.out.noop P1.out HO.out
 have PU : Box U P t cs := ⟨by rw [hU, qdQ P1.out HO.out]; exact P1.out.is⟩
 rw [<- hU]
 have c2 := c2 U IU PU
 have KU := qh KU
 clear hU IU PU I1 K1 P1 p1 f1 l1
 go_wp2_with (go_at_call 168; ((with_reducible refine (c2.out).mono ?_); rintro e w2 ⟨rfl, hI2, hK2⟩; have I2 := qh hI2; have K2 := qh (KU.out.trans hK2); clear hI2 hK2))
 go_end0
 exact ⟨rfl, by rw [<- List.append_assoc]; exact I2.out, K2.out⟩
end Go.Proofs.YtmiopphcfdlneaaGreat
namespace Fx
def cut (v : Int) : Int := min (max v (-2147483648)) 2147483647
def qeY (a lo hi : Int) : Int := min (max a lo) hi
theorem qpZ (v : Int) : -2147483648 <= cut v /\ cut v <= 2147483647 := by unfold cut; omega
end Fx
namespace Gf
def wrap (a : Int) : Int := a % 16777216
def move (a v : Int) : Int := (a + v) % 16777216
def gap (a b : Int) : Int := (b - a + 8388608) % 16777216 - 8388608
def near (g : Int) : Bool := decide (-786432 < g) && decide (g < 786432)
def hits (ax ay bx by' : Int) : Bool := near (gap ax bx) && near (gap ay by')
def push (v s : Int) : Int := Fx.qeY (Fx.cut (v - v.tdiv 16 + 256 * s)) (-524288) 524288
def tame (a : Int) : Int := if a = -128 then -127 else a
def way (a : Int) : Int := if 0 < a then 393216 else if a < 0 then -393216 else 0
def aimx (x y : Int) : Int := if x = 0 /\ y = 0 then 393216 else way x
def aimy (y : Int) : Int := way y
theorem qb3 (a v : Int) : 0 <= move a v /\ move a v < 16777216 := by unfold move; omega
theorem qfM (a b : Int) : -8388608 <= gap a b /\ gap a b < 8388608 := by unfold gap; omega
theorem qfp (v s : Int) : -524288 <= push v s /\ push v s <= 524288 := by unfold push Fx.qeY; omega
theorem qid {a : Int} (h : -128 <= a /\ a <= 127) : -127 <= tame a /\ tame a <= 127 := by unfold tame; split <;> omega
theorem qeB {a : Int} (h : a ≠ -128) : tame a = a := by unfold tame; rw [if_neg h]
theorem qpW (a : Int) : -393216 <= way a /\ way a <= 393216 := by unfold way; split <;> (try split) <;> omega
theorem qoR (x y : Int) : -393216 <= aimx x y /\ aimx x y <= 393216 := by
 unfold aimx; split
 · omega
 · exact qpW _
theorem qnA {v : Int} (w : -2147483648 <= v /\ v <= 2147483647) : -2147483648 <= v - v.tdiv 16 /\ v - v.tdiv 16 <= 2147483647 /\ -134217728 <= v.tdiv 16 /\ v.tdiv 16 <= 134217727 := by
 by_cases h : 0 <= v
 · have := Int.tdiv_eq_ediv_of_nonneg h (b := 16); omega
 · have e : v.tdiv 16 = -((-v) / 16) := by
    have : v = -(-v) := by omega
    rw [this, Int.neg_tdiv, Int.tdiv_eq_ediv_of_nonneg (by omega)]; simp
   omega
theorem qhj (v : Int) : (if v.tmod 16777216 < 0 then v.tmod 16777216 + 16777216 else v.tmod 16777216) = v % 16777216 := by
 have h1 := Int.tmod_eq_emod (a := v) (b := 16777216)
 split <;> (split at h1 <;> omega)
theorem round_eq (v : Int) : (v.tmod 16777216 + 16777216).tmod 16777216 = v % 16777216 := by
 have h1 := Int.tmod_eq_emod (a := v) (b := 16777216)
 have h3 : 0 <= v.tmod 16777216 + 16777216 := by
  have := Int.lt_tmod_of_pos v (b := 16777216) (by omega); omega
 rw [Int.tmod_eq_emod_of_nonneg h3]
 split at h1 <;> omega
theorem round_eq' (v : Int) : (v.tmod 16777216 + 16777216) % 16777216 = v % 16777216 := by
 have h := round_eq v
 rwa [Int.tmod_eq_emod_of_nonneg (by have := Int.lt_tmod_of_pos v (b := 16777216) (by omega); omega)] at h
theorem qgn (v : Int) : -16777216 < v.tmod 16777216 /\ v.tmod 16777216 < 16777216 := ⟨Int.lt_tmod_of_pos v (by omega), Int.tmod_lt_of_pos v (by omega)⟩
end Gf
namespace Dn
def next (d : Int) : Int := (d * 6364136223846793005 + 1442695040888963407) % 18446744073709551616
def mix (h c : Int) : Int := ((h.toNat ^^^ c.toNat : Nat) : Int) * 1099511628211 % 18446744073709551616
def share (e n : Int) : Int := e / 4294967296 * n / 4294967296
def seed (l : List UInt8) : Int := l.foldl (fun h c => mix h (c.toNat : Int)) 14695981039346656037
theorem qcI (d : Int) : 0 <= next d /\ next d <= 18446744073709551615 := by unfold next; omega
theorem qqL (h c : Int) : 0 <= mix h c /\ mix h c <= 18446744073709551615 := by unfold mix; omega
theorem qpb : seed [] = 14695981039346656037 := rfl
theorem qjg (l : List UInt8) (c : UInt8) : seed (l ++ [c]) = mix (seed l) (c.toNat : Int) := by unfold seed; rw [List.foldl_append]; rfl
theorem qnK (l : List UInt8) : 0 <= seed l /\ seed l <= 18446744073709551615 := by
 rcases List.eq_nil_or_concat l with rfl | ⟨m, c, rfl⟩
 · rw [qpb]; omega
 · rw [List.concat_eq_append, qjg]; exact qqL _ _
theorem qdb {e n : Int} (he : 0 <= e /\ e <= 18446744073709551615) (hn : 1 <= n /\ n <= 2147483647) :
 0 <= e / 4294967296 * n /\ e / 4294967296 * n <= 9223372030412324865 /\ 0 <= share e n /\ share e n < n := by
 unfold share
 have hq : 0 <= e / 4294967296 /\ e / 4294967296 <= 4294967295 := by omega
 generalize e / 4294967296 = q at *
 have h1 : 0 <= q * n := Int.mul_nonneg hq.1 (by omega)
 have h2 : q * n <= 4294967295 * n := Int.mul_le_mul_of_nonneg_right hq.2 (by omega)
 generalize q * n = p at *
 omega
end Dn
namespace Gm
open Go
structure Ship where
 on : Bool
 x : Int
 y : Int
 vx : Int
 vy : Int
 cool : Int
 score : Int
structure Shot where
 owner : Int
 x : Int
 y : Int
 vx : Int
 vy : Int
 left : Int
structure In where
 x : Int
 y : Int
 b : Int
structure G where
 frame : Int
 dice : Int
 ship : Nat -> Ship
 qaa : List Shot
def Ship.none : Ship := ⟨false, 0, 0, 0, 0, 0, 0⟩
def upd (f : Nat -> Ship) (i : Nat) (s : Ship) : Nat -> Ship := fun j => if j = i then s else f j
def Ship.cells (s : Ship) : List Value := [.bool s.on, .int .i32 s.x, .int .i32 s.y, .int .i32 s.vx, .int .i32 s.vy, .int .i64 s.cool, .int .i64 s.score]
def Shot.cells (s : Shot) : List Value := [.int .i64 s.owner, .int .i32 s.x, .int .i32 s.y, .int .i32 s.vx, .int .i32 s.vy, .int .i64 s.left]
def In.cells (p : In) : List Value := [.int .i8 p.x, .int .i8 p.y, .int .u8 p.b]
def qbd (f : Nat -> Ship) : List Value := (f 0).cells ++ ((f 1).cells ++ ((f 2).cells ++ ((f 3).cells ++ ((f 4).cells ++ ((f 5).cells ++ ((f 6).cells ++ (f 7).cells))))))
def cells (g : G) (s : Value) : Array Value := ([Value.int .i64 g.frame, Value.int .u64 g.dice] ++ qbd g.ship ++ [s]).toArray
theorem qeD (f : Nat -> Ship) : (qbd f).length = 56 := rfl
theorem qaf (g : G) (s : Value) : (cells g s).size = 59 := rfl
theorem qa1 (g : G) (s : Value) : (cells g s)[0]? = some (.int .i64 g.frame) := rfl
theorem qcg (g : G) (s : Value) : (cells g s)[1]? = some (.int .u64 g.dice) := rfl
theorem qbc (g : G) (s : Value) : (cells g s)[58]? = some s := rfl
theorem qae (g : G) (s : Value) (i k : Nat) (hi : i < 8) (hk : k < 7) : (cells g s)[2 + i * 7 + k]? = (g.ship i).cells[k]? := by
 match i, hi with
 | 0, _ => match k, hk with | 0, _ | 1, _ | 2, _ | 3, _ | 4, _ | 5, _ | 6, _ => rfl
 | 1, _ => match k, hk with | 0, _ | 1, _ | 2, _ | 3, _ | 4, _ | 5, _ | 6, _ => rfl
 | 2, _ => match k, hk with | 0, _ | 1, _ | 2, _ | 3, _ | 4, _ | 5, _ | 6, _ => rfl
 | 3, _ => match k, hk with | 0, _ | 1, _ | 2, _ | 3, _ | 4, _ | 5, _ | 6, _ => rfl
 | 4, _ => match k, hk with | 0, _ | 1, _ | 2, _ | 3, _ | 4, _ | 5, _ | 6, _ => rfl
 | 5, _ => match k, hk with | 0, _ | 1, _ | 2, _ | 3, _ | 4, _ | 5, _ | 6, _ => rfl
 | 6, _ => match k, hk with | 0, _ | 1, _ | 2, _ | 3, _ | 4, _ | 5, _ | 6, _ => rfl
 | 7, _ => match k, hk with | 0, _ | 1, _ | 2, _ | 3, _ | 4, _ | 5, _ | 6, _ => rfl
def inF (a : Int) : Prop := 0 <= a /\ a < 16777216
def slow (a m : Int) : Prop := -m <= a /\ a <= m
def qaX (s : Ship) : Prop := (s.on = true \/ s = Ship.none) /\ inF s.x /\ inF s.y /\ slow s.vx 524288 /\ slow s.vy 524288 /\ 0 <= s.cool /\ s.cool <= 10 /\ 0 <= s.score /\ s.score <= 1073741824
def qa7 (s : Shot) : Prop := 0 <= s.owner /\ s.owner < 8 /\ inF s.x /\ inF s.y /\ slow s.vx 393216 /\ slow s.vy 393216 /\ 1 <= s.left /\ s.left <= 24
def ok (g : G) : Prop := 0 <= g.frame /\ g.frame <= 1048576 /\ g.qaa.length <= 32 /\ (∀ i, i < 8 -> qaX (g.ship i)) /\ (∀ i (h : i < g.qaa.length), qa7 g.qaa[i])
def i32 (a : Int) : Prop := -2147483648 <= a /\ a <= 2147483647
def i64 (a : Int) : Prop := -9223372036854775808 <= a /\ a <= 9223372036854775807
def qdK (s : Ship) : Prop := i32 s.x /\ i32 s.y /\ i32 s.vx /\ i32 s.vy /\ i64 s.cool /\ i64 s.score
def qdN (s : Shot) : Prop := i64 s.owner /\ i32 s.x /\ i32 s.y /\ i32 s.vx /\ i32 s.vy /\ i64 s.left
def ty (g : G) : Prop := i64 g.frame /\ (0 <= g.dice /\ g.dice <= 18446744073709551615) /\ (∀ i, i < 8 -> qdK (g.ship i)) /\ (∀ i (h : i < g.qaa.length), qdN g.qaa[i])
theorem qaX.ty {s : Ship} (h : qaX s) : qdK s := by
 obtain ⟨_, h1, h2, h3, h4, h5⟩ := h; unfold inF slow at *; unfold qdK i32 i64; omega
theorem qa7.ty {s : Shot} (h : qa7 s) : qdN s := by
 obtain ⟨h0, h0', h1, h2, h3, h4, h5⟩ := h; unfold inF slow at *; unfold qdN i32 i64; omega
def qad (l : List Shot) : List Value := l.flatMap Shot.cells
theorem qil (l : List Shot) : (qad l).length = l.length * 6 := by
 induction l with
 | nil => rfl
 | cons s l ih => unfold qad at *; rw [List.flatMap_cons, List.length_append, ih, List.length_cons]; simp [Shot.cells]; omega
theorem qbz (l : List Shot) (k j : Nat) (hk : k < l.length) (hj : j < 6) : (qad l)[k * 6 + j]? = l[k].cells[j]? := by
 induction l generalizing k with
 | nil => simp at hk
 | cons s l ih =>
  unfold qad at *
  rw [List.flatMap_cons]
  match k with
  | 0 => rw [List.getElem?_append_left (by simp [Shot.cells]; omega)]; simp
  | k + 1 =>
   rw [List.getElem?_append_right (by simp [Shot.cells]; omega)]
   have := ih k (by simpa using hk)
   rw [show (k + 1) * 6 + j - s.cells.length = k * 6 + j from by simp [Shot.cells]; omega, this]
   simp
theorem qcH (l m : List Shot) : qad (l ++ m) = qad l ++ qad m := by unfold qad; rw [List.flatMap_append]
def new (d : Int) : G := ⟨0, d, fun _ => Ship.none, []⟩
def qjF (d : Int) : Int := Dn.share (Dn.next d) 16777216
def qjE (d : Int) : Int := Dn.share (Dn.next (Dn.next d)) 16777216
def qeH (d : Int) : Int := Dn.next (Dn.next d)
def spawn (g : G) (i : Nat) : G := { g with dice := qeH g.dice, ship := upd g.ship i ⟨true, qjF g.dice, qjE g.dice, 0, 0, 0, 0⟩ }
def remove (g : G) (i : Nat) : G := { g with ship := upd g.ship i Ship.none, qaa := g.qaa.filter fun s => decide (s.owner ≠ i) }
def qcD (f : Nat -> Ship) (s : Shot) (i : Nat) : Bool := (f i).on && (decide ((i : Int) ≠ s.owner) && Gf.hits s.x s.y (f i).x (f i).y)
def qcZ (f : Nat -> Ship) (s : Shot) : Nat -> Nat -> Int
 | 0, _ => -1
 | n + 1, i => if qcD f s i then (i : Int) else qcZ f s n (i + 1)
def hit (f : Nat -> Ship) (s : Shot) : Int := qcZ f s 8 0
theorem qcT {f : Nat -> Ship} {s : Shot} {n i : Nat} (h : qcD f s i = false) : qcZ f s (n + 1) i = qcZ f s n (i + 1) := by
 show (if qcD f s i then _ else _) = _; rw [h]; rfl
theorem qes {f : Nat -> Ship} {s : Shot} {n i : Nat} (h : qcD f s i = true) : qcZ f s (n + 1) i = i := by
 show (if qcD f s i then _ else _) = _; rw [h]; rfl
theorem qhY (f : Nat -> Ship) (s : Shot) : ∀ n i, qcZ f s n i = -1 \/ ∃ k, qcZ f s n i = (k : Nat) /\ i <= k /\ k < i + n /\ qcD f s k = true
 | 0, i => .inl rfl
 | n + 1, i => by
  cases h : qcD f s i
  · rw [qcT h]
    rcases qhY f s n (i + 1) with h' | ⟨k, h1, h2, h3, h4⟩
    · exact .inl h'
    · exact .inr ⟨k, h1, by omega, by omega, h4⟩
  · exact .inr ⟨i, qes h, by omega, by omega, h⟩
theorem qor (f : Nat -> Ship) (s : Shot) : hit f s = -1 \/ ∃ k, hit f s = (k : Nat) /\ k < 8 /\ qcD f s k = true := by
 rcases qhY f s 8 0 with h | ⟨k, h1, _, h3, h4⟩
 · exact .inl h
 · exact .inr ⟨k, h1, by omega, h4⟩
def nvx (p : In) (s : Ship) : Int := Gf.push s.vx (Gf.tame p.x)
def nvy (p : In) (s : Ship) : Int := Gf.push s.vy (Gf.tame p.y)
def nx (p : In) (s : Ship) : Int := Gf.move s.x (nvx p s)
def ny (p : In) (s : Ship) : Int := Gf.move s.y (nvy p s)
def qcL (p : In) (n : Nat) (s : Ship) : Bool := decide (s.cool <= 0) && (decide (p.b % 2 = 1) && decide (n < 32))
def moved (p : In) (n : Nat) (s : Ship) : Ship :=
 if s.on = true then ⟨true, nx p s, ny p s, nvx p s, nvy p s, if 0 < s.cool then s.cool - 1 else if qcL p n s = true then 10 else s.cool, s.score⟩ else s
def made (p : In) (n : Nat) (i : Nat) (s : Ship) : List Shot :=
 if s.on = true /\ qcL p n s = true then [⟨i, nx p s, ny p s, Gf.aimx (Gf.tame p.x) (Gf.tame p.y), Gf.aimy (Gf.tame p.y), 24⟩] else []
def ph1 (ps : Nat -> In) (g : G) : Nat -> (Nat -> Ship) × List Shot
 | 0 => (g.ship, g.qaa)
 | k + 1 => (upd (ph1 ps g k).1 k (moved (ps k) (ph1 ps g k).2.length ((ph1 ps g k).1 k)), (ph1 ps g k).2 ++ made (ps k) (ph1 ps g k).2.length k ((ph1 ps g k).1 k))
structure St where
 dice : Int
 ship : Nat -> Ship
 left : List Shot
def fly (s : Shot) : Shot := ⟨s.owner, Gf.move s.x s.vx, Gf.move s.y s.vy, s.vx, s.vy, s.left - 1⟩
def anew (d : Int) (f : Nat -> Ship) (k : Nat) : Nat -> Ship := upd f k ⟨true, qjF d, qjE d, 0, 0, 0, (f k).score⟩
def more (f : Nat -> Ship) (o : Nat) : Nat -> Ship := if (f o).on = true then upd f o { f o with score := min ((f o).score + 1) 1073741824 } else f
def qeg (st : St) (s0 : Shot) : St :=
 if (fly s0).left = 0 then st
 else if hit st.ship (fly s0) < 0 then { st with left := st.left ++ [fly s0] }
 else ⟨qeH st.dice, more (anew st.dice st.ship (hit st.ship (fly s0)).toNat) s0.owner.toNat, st.left⟩
def ph2 (st : St) (l : List Shot) : St := l.foldl qeg st
def step (ps : Nat -> In) (g : G) : G :=
 let st := ph2 ⟨g.dice, (ph1 ps g 8).1, []⟩ (ph1 ps g 8).2
 ⟨g.frame + 1, st.dice, st.ship, st.left⟩
def Ship.eqB (s t : Ship) : Bool := s.on == t.on && (s.x == t.x && (s.y == t.y && (s.vx == t.vx && (s.vy == t.vy && (s.cool == t.cool && s.score == t.score)))))
theorem Ship.qoD {s t : Ship} : s.eqB t = true ↔ s = t := by
 obtain ⟨a1, a2, a3, a4, a5, a6, a7⟩ := s
 obtain ⟨b1, b2, b3, b4, b5, b6, b7⟩ := t
 simp [Ship.eqB]
def Eq (g h : G) : Prop := g.frame = h.frame /\ g.dice = h.dice /\ (∀ i, i < 8 -> g.ship i = h.ship i) /\ g.qaa = h.qaa
theorem qlo (g : G) (s : Value) (j : Nat) (hj : j < 56) : (cells g s)[2 + j]? = (qbd g.ship)[j]? := by
 unfold cells
 rw [List.getElem?_toArray, List.append_assoc, List.getElem?_append_right (by simp), List.getElem?_append_left (by rw [qeD]; simp; omega)]
 simp
def tyIn (p : In) : Prop := (-128 <= p.x /\ p.x <= 127) /\ (-128 <= p.y /\ p.y <= 127) /\ (0 <= p.b /\ p.b <= 255)
def qai (f : Nat -> In) : List Value := (f 0).cells ++ ((f 1).cells ++ ((f 2).cells ++ ((f 3).cells ++ ((f 4).cells ++ ((f 5).cells ++ ((f 6).cells ++ (f 7).cells))))))
theorem qjQ (f : Nat -> In) : (qai f).length = 24 := rfl
theorem qbe (f : Nat -> In) (i k : Nat) (hi : i < 8) (hk : k < 3) : (qai f).toArray[i * 3 + k]? = (f i).cells[k]? := by
 match i, hi with
 | 0, _ => match k, hk with | 0, _ | 1, _ | 2, _ => rfl
 | 1, _ => match k, hk with | 0, _ | 1, _ | 2, _ => rfl
 | 2, _ => match k, hk with | 0, _ | 1, _ | 2, _ => rfl
 | 3, _ => match k, hk with | 0, _ | 1, _ | 2, _ => rfl
 | 4, _ => match k, hk with | 0, _ | 1, _ | 2, _ => rfl
 | 5, _ => match k, hk with | 0, _ | 1, _ | 2, _ => rfl
 | 6, _ => match k, hk with | 0, _ | 1, _ | 2, _ => rfl
 | 7, _ => match k, hk with | 0, _ | 1, _ | 2, _ => rfl
theorem upd_same (f : Nat -> Ship) (i : Nat) (s : Ship) : upd f i s i = s := by unfold upd; rw [if_pos rfl]
theorem qam (f : Nat -> Ship) {i j : Nat} (s : Ship) (h : j ≠ i) : upd f i s j = f j := by unfold upd; rw [if_neg h]
theorem qn6 (ps : Nat -> In) (g : G) (k j : Nat) (h : k <= j) : (ph1 ps g k).1 j = g.ship j := by
 induction k with
 | zero => rfl
 | succ k ih => show upd _ k _ j = _; rw [qam _ _ (by omega)]; exact ih (by omega)
theorem qlR {p : In} {n : Nat} {s : Ship} (h : qaX s) : qaX (moved p n s) := by
 unfold moved
 split
 · obtain ⟨h0, h1, h2, h3, h4, h5, h6, h7, h8⟩ := h
   refine ⟨.inl rfl, Gf.qb3 _ _, Gf.qb3 _ _, Gf.qfp _ _, Gf.qfp _ _, ?_, ?_, h7, h8⟩
   · show 0 <= (if 0 < s.cool then s.cool - 1 else if qcL p n s = true then 10 else s.cool)
     split
     · omega
     · split <;> omega
   · show (if 0 < s.cool then s.cool - 1 else if qcL p n s = true then 10 else s.cool) <= 10
     split
     · omega
     · split <;> omega
 · exact h
theorem qoe {p : In} {n i : Nat} {s : Ship} (hi : i < 8) : ∀ t ∈ made p n i s, qa7 t := by
 unfold made
 split
 · intro t ht
   rcases List.mem_singleton.1 ht with rfl
   refine ⟨by show (0 : Int) <= (i : Int); omega, by show (i : Int) < 8; omega, Gf.qb3 _ _, Gf.qb3 _ _, Gf.qoR _ _, Gf.qpW _, by show (1 : Int) <= 24; omega, by show (24 : Int) <= 24; omega⟩
 · intro t ht; cases ht
theorem qlU (p : In) (n i : Nat) (s : Ship) : n + (made p n i s).length <= 32 \/ (made p n i s).length = 0 := by
 unfold made
 split
 · rename_i h
   left
   have := h.2
   unfold qcL at this
   simp at this
   simp; omega
 · right; rfl
structure Way (f : Nat -> Ship) (l : List Shot) : Prop where
 qbZ : ∀ i, i < 8 -> qaX (f i)
 qaa : ∀ t ∈ l, qa7 t
 len : l.length <= 32
theorem ok.way {g : G} (h : ok g) : Way g.ship g.qaa := ⟨h.2.2.2.1, fun t ht => by
 obtain ⟨i, hi, rfl⟩ := List.getElem_of_mem ht; exact h.2.2.2.2 i hi, h.2.2.1⟩
theorem qiz {ps : Nat -> In} {g : G} (h : ok g) : ∀ k, k <= 8 -> Way (ph1 ps g k).1 (ph1 ps g k).2
 | 0, _ => h.way
 | k + 1, hk => by
  have ih := qiz (ps := ps) h k (by omega)
  refine ⟨fun i hi => ?_, fun t ht => ?_, ?_⟩
  · by_cases e : i = k
    · subst e; show qaX (upd _ _ _ _); rw [upd_same]; exact qlR (ih.qbZ _ hi)
    · show qaX (upd _ _ _ _); rw [qam _ _ e]; exact ih.qbZ _ hi
  · rcases List.mem_append.1 (show t ∈ (ph1 ps g k).2 ++ made (ps k) (ph1 ps g k).2.length k ((ph1 ps g k).1 k) from ht) with ht | ht
    · exact ih.qaa _ ht
    · exact qoe (by omega) _ ht
  · show ((ph1 ps g k).2 ++ made (ps k) (ph1 ps g k).2.length k ((ph1 ps g k).1 k)).length <= 32
    have := qlU (ps k) (ph1 ps g k).2.length k ((ph1 ps g k).1 k)
    have := ih.len
    rw [List.length_append]; omega
theorem qdZ (f : Nat -> Ship) (k : Nat) : upd f k (f k) = f := funext fun j => by
 unfold upd; split
 · rename_i h; rw [h]
 · rfl
theorem qlP {p : In} {n i : Nat} {s : Ship} (h : s.on = false) : moved p n s = s /\ made p n i s = [] := by
 unfold moved made; simp [h]
theorem qjM {p : In} {n i : Nat} {s : Ship} (h : s.on = true) (hc : 0 < s.cool) : moved p n s = ⟨true, nx p s, ny p s, nvx p s, nvy p s, s.cool - 1, s.score⟩ /\ made p n i s = [] := by
 have hs : qcL p n s = false := by unfold qcL; simp; intro h; omega
 unfold moved made
 rw [if_pos h, if_pos hc, if_neg (by rw [hs]; simp)]
 exact ⟨rfl, rfl⟩
theorem qjL {p : In} {n i : Nat} {s : Ship} (h : s.on = true) (hc : s.cool = 0) (hs : qcL p n s = false) : moved p n s = ⟨true, nx p s, ny p s, nvx p s, nvy p s, 0, s.score⟩ /\ made p n i s = [] := by
 unfold moved made
 rw [if_pos h, if_neg (by omega), if_neg (by rw [hs]; simp), if_neg (by rw [hs]; simp), hc]
 exact ⟨rfl, rfl⟩
theorem qjK {p : In} {n i : Nat} {s : Ship} (h : s.on = true) (hc : s.cool = 0) (hs : qcL p n s = true) : moved p n s = ⟨true, nx p s, ny p s, nvx p s, nvy p s, 10, s.score⟩ /\
 made p n i s = [⟨i, nx p s, ny p s, Gf.aimx (Gf.tame p.x) (Gf.tame p.y), Gf.aimy (Gf.tame p.y), 24⟩] := by
 unfold moved made
 rw [if_pos h, if_neg (by omega), if_pos hs, if_pos ⟨h, hs⟩]
 exact ⟨rfl, rfl⟩
structure Way2 (st : St) : Prop where
 qbZ : ∀ i, i < 8 -> qaX (st.ship i)
 left : ∀ t ∈ st.left, qa7 t
 dice : 0 <= st.dice /\ st.dice <= 18446744073709551615
theorem qf7 (d : Int) : (0 <= qjF d /\ qjF d < 16777216) /\ (0 <= qjE d /\ qjE d < 16777216) /\ (0 <= qeH d /\ qeH d <= 18446744073709551615) :=
 ⟨(Dn.qdb (Dn.qcI d) (n := 16777216) (by omega)).2.2, (Dn.qdb (Dn.qcI (Dn.next d)) (n := 16777216) (by omega)).2.2, Dn.qcI _⟩
theorem qdX {d : Int} {f : Nat -> Ship} {k : Nat} (h : ∀ i, i < 8 -> qaX (f i)) (hk : k < 8) : ∀ i, i < 8 -> qaX (anew d f k i) := fun i hi => by
 unfold anew upd
 split
 · have hs := (h k hk).2.2.2.2.2.2
   have hp := qf7 d
   exact ⟨.inl rfl, hp.1, hp.2.1, by unfold slow; dsimp only; omega, by unfold slow; dsimp only; omega, by dsimp only; omega, by dsimp only; omega, hs.2.1, hs.2.2⟩
 · exact h i hi
theorem qqk {f : Nat -> Ship} {o : Nat} (h : ∀ i, i < 8 -> qaX (f i)) : ∀ i, i < 8 -> qaX (more f o i) := fun i hi => by
 unfold more
 split
 · rename_i hon
   unfold upd
   split
   · rename_i e
     subst e
     obtain ⟨_, h1, h2, h3, h4, h5, h6, h7, h8⟩ := h i hi
     exact ⟨.inl hon, h1, h2, h3, h4, h5, h6, by dsimp only; omega, by dsimp only; omega⟩
   · exact h i hi
 · exact h i hi
theorem qqP {s : Shot} (h : qa7 s) (hl : (fly s).left ≠ 0) : qa7 (fly s) := by
 obtain ⟨h0, h0', h1, h2, h3, h4, h5, h6⟩ := h
 have : (fly s).left = s.left - 1 := rfl
 exact ⟨h0, h0', Gf.qb3 _ _, Gf.qb3 _ _, h3, h4, by omega, by omega⟩
theorem qqO {s : Shot} (h : qa7 s) : qdN (fly s) := by
 obtain ⟨h0, h0', h1, h2, h3, h4, h5, h6⟩ := h
 have a := Gf.qb3 s.x s.vx
 have b := Gf.qb3 s.y s.vy
 unfold slow at h3 h4
 unfold qdN i32 i64 fly
 dsimp only
 omega
theorem qnF {st : St} {s : Shot} (h : Way2 st) (hs : qa7 s) : Way2 (qeg st s) /\ (qeg st s).left.length <= st.left.length + 1 := by
 unfold qeg
 split
 · exact ⟨h, by omega⟩
 · rename_i hl
   split
   · refine ⟨⟨h.qbZ, fun t ht => ?_, h.dice⟩, by simp⟩
     rcases List.mem_append.1 ht with ht | ht
     · exact h.left t ht
     · rcases List.mem_singleton.1 ht with rfl; exact qqP hs hl
   · rename_i hh
     rcases qor st.ship (fly s) with e | ⟨k, e, hk, _⟩
     · rw [e] at hh; exact absurd (by decide) hh
     · rw [e]
       exact ⟨⟨qqk (qdX h.qbZ (by simpa using hk)), h.left, (qf7 _).2.2⟩, by simp⟩
theorem qf8 (st : St) (l : List Shot) (j : Nat) (hj : j < l.length) : ph2 st (l.take (j + 1)) = qeg (ph2 st (l.take j)) l[j] := by
 unfold ph2
 rw [List.take_succ_eq_append_getElem hj, List.foldl_append]; rfl
theorem qgN {st : St} {l : List Shot} (h : Way2 st) (hl : ∀ t ∈ l, qa7 t) : ∀ j, j <= l.length -> Way2 (ph2 st (l.take j)) /\ (ph2 st (l.take j)).left.length <= st.left.length + j
 | 0, _ => ⟨by simpa [ph2] using h, by simp [ph2]⟩
 | j + 1, hj => by
  have ih := qgN h hl j (by omega)
  have := qnF ih.1 (hl _ (List.getElem_mem (show j < l.length by omega)))
  rw [qf8 st l j (by omega)]
  exact ⟨this.1, by omega⟩
end Gm
namespace Go.Proofs.YtmiopphcfdlneaaGreat
open Go.RowKit
theorem qeG (a : Int) (wa : -2147483648 <= a /\ a <= 2147483647) (w : World) :
 Calls Tryz.prog 104 #[.int .i32 a] w fun e w' => e = .returned (.bool (decide (0 <= a) && decide (a < 16777216))) /\ w = w' := by
 go_enter Tryz.func104, Tryz.ntmps104
 go_wp2
 all_goals
  go_ret
  exact ⟨qal (by rw [Bool.eq_iff_iff]; simp; omega), rfl⟩
theorem qdz (a m : Int) (wa : -2147483648 <= a /\ a <= 2147483647) (wm : 0 <= m /\ m <= 2147483647) (w : World) :
 Calls Tryz.prog 105 #[.int .i32 a, .int .i32 m] w fun e w' => e = .returned (.bool (decide (-m <= a) && decide (a <= m))) /\ w = w' := by
 go_enter Tryz.func105, Tryz.ntmps105
 go_wp2
 all_goals
  go_ret
  exact ⟨qal (by rw [Bool.eq_iff_iff]; simp; omega), rfl⟩
theorem qaY {w : World} {B k : Nat} {g : Gm.G} {s : Value} (hc : ∀ j, w.cell? ⟨B, j, none⟩ = (Gm.cells g s)[j]?) (hk : k < 8) (j : Nat) (hj : j < 7) :
 w.cell? ⟨B, 2 + k * 7 + j, none⟩ = (g.ship k).cells[j]? := (hc _).trans (Gm.qae g s k j hk hj)
theorem qci (a : Addr) (j : Nat) (h : 0 < j) : a.add j = ⟨a.block, a.off + j, none⟩ := by unfold Addr.add; rw [if_neg (by omega)]
theorem qd0 {w : World} {B n : Nat} {A : Option Addr} {l : List Gm.Shot} (h : Lies w B 6 A n (Gm.qad l)) (hn : n = l.length) (k : Nat) (hk : k < l.length) :
 ∃ ad, A = some ad /\ ad.block < B /\ w.cell? (ad.add (k * 6)) = some (.int .i64 l[k].owner) /\ w.cell? ⟨(ad.add (k * 6)).block, (ad.add (k * 6)).off + 1, none⟩ = some (.int .i32 l[k].x) /\
  w.cell? ⟨(ad.add (k * 6)).block, (ad.add (k * 6)).off + 2, none⟩ = some (.int .i32 l[k].y) /\ w.cell? ⟨(ad.add (k * 6)).block, (ad.add (k * 6)).off + 3, none⟩ = some (.int .i32 l[k].vx) /\
  w.cell? ⟨(ad.add (k * 6)).block, (ad.add (k * 6)).off + 4, none⟩ = some (.int .i32 l[k].vy) /\ w.cell? ⟨(ad.add (k * 6)).block, (ad.add (k * 6)).off + 5, none⟩ = some (.int .i64 l[k].left) := by
 obtain ⟨ad, e, hb⟩ := h.start (by omega)
 have hc := h.cell ad e (by omega)
 have hj : ∀ j v, j < 6 -> l[k].cells[j]? = some v -> w.cell? ((ad.add (k * 6)).add j) = some v := fun j v hj hv => by
  rw [qhm]
  exact hc _ _ ((Gm.qbz l k j hk hj).trans hv)
 refine ⟨ad, e, hb, ?_, ?_, ?_, ?_, ?_, ?_⟩
 · have := hj 0 _ (by omega) rfl; rwa [show (ad.add (k * 6)).add 0 = ad.add (k * 6) from by unfold Addr.add; rfl] at this
 · have := hj 1 _ (by omega) rfl; rwa [qci _ 1 (by omega)] at this
 · have := hj 2 _ (by omega) rfl; rwa [qci _ 2 (by omega)] at this
 · have := hj 3 _ (by omega) rfl; rwa [qci _ 3 (by omega)] at this
 · have := hj 4 _ (by omega) rfl; rwa [qci _ 4 (by omega)] at this
 · have := hj 5 _ (by omega) rfl; rwa [qci _ 5 (by omega)] at this
theorem qfn (g : Gm.G) (A : Option Addr) (n c : Nat) (w : World) (hg : Gm.ok g) (hn : n = g.qaa.length) (hr : Lies w w.heap.size 6 A n (Gm.qad g.qaa)) :
 Calls Tryz.prog 66 #[.agg (Gm.cells g (.slice A n c))] w fun e w' => e = .returned (.bool true) /\ Below w.heap.size w w' := by
 obtain ⟨hf1, hf2, hl, hships, hshots⟩ := hg
 have d1 : decide (g.frame < 0) = false := decide_eq_false (by omega)
 have d2 : decide (1048576 < g.frame) = false := decide_eq_false (by omega)
 have d3 : decide (32 < (n : Int)) = false := decide_eq_false (by omega)
 have hN : Hid (n = g.qaa.length) := qh hn
 have hn32 : n <= 32 := by omega
 clear hn
 have hc : ∀ W : World, ∀ j, (W.alloc (.cells (Gm.cells g (.slice A n c)) 31)).cell? ⟨W.heap.size, j, none⟩ = (Gm.cells g (.slice A n c))[j]? := fun W j => (Box.made W _ _).cell j
 have h0 := Gm.qa1 g (.slice A n c)
 have h58 := Gm.qbc g (.slice A n c)
 go_enter Tryz.func66, Tryz.ntmps66
 go_wp2
 go_loopw [3] (fun i wr => ∃ k : Nat, k <= 8 /\ i = .int .i64 k /\ Box wr w.heap.size 31 (Gm.cells g (.slice A n c)) /\ Below w.heap.size w wr) (fun i _ => 8 - (intOf i).toNat)
 case atStart => exact ⟨0, by omega, rfl, Box.made _ _ _, qac _ _⟩
 case round =>
  obtain ⟨k, hk, rfl, hB, hb⟩ := hrel
  by_cases hlt : k < 8
  · have hcr := hB.cell
    have hlB := hB.lt
    have e0 := qaY hcr hlt 0 (by omega)
    have e1 := qaY hcr hlt 1 (by omega)
    have e2 := qaY hcr hlt 2 (by omega)
    have e3 := qaY hcr hlt 3 (by omega)
    have e4 := qaY hcr hlt 4 (by omega)
    have e5 := qaY hcr hlt 5 (by omega)
    have e6 := qaY hcr hlt 6 (by omega)
    have ho := hships k hlt
    generalize g.ship k = s at e0 e1 e2 e3 e4 e5 e6 ho
    obtain ⟨on, x, y, vx, vy, cool, score⟩ := s
    simp only [Gm.Ship.cells, List.getElem?_cons_zero, List.getElem?_cons_succ, Nat.add_zero] at e0 e1 e2 e3 e4 e5 e6
    obtain ⟨o1, o2, o3, o4, o5, o6, o7, o8, o9⟩ := ho
    unfold Gm.inF Gm.slow at *
    dsimp only at o1 o2 o3 o4 o5 o6 o7 o8 o9
    have hk8 : (k : Int) < 8 := by omega
    clear hc hcr hships hshots h0 h58 d1 d2 d3
    rcases o1 with o1 | o1
    · subst o1
      go_wp2
      go_roundw
      case rel => exact ⟨k + 1, by omega, by go_num, hB.alloc _, hb.alloc (Nat.le_of_lt hlB) _⟩
      case measure => simp [intOf]; omega
    · injection o1 with z1 z2 z3 z4 z5 z6 z7
      subst z1 z2 z3 z4 z5 z6 z7
      go_wp2
      go_roundw
      case rel => exact ⟨k + 1, by omega, by go_num, hB.alloc _, hb.alloc (Nat.le_of_lt hlB) _⟩
      case measure => simp [intOf]; omega
  · have hk8 : ¬ (k : Int) < 8 := by omega
    have hcr := hB.cell
    have hlB := hB.lt
    clear hc hships h0 d1 d2 d3
    go_wp2
    go_loopw [5] (fun i wr => ∃ k : Nat, k <= n /\ i = .int .i64 k /\ Box wr w.heap.size 31 (Gm.cells g (.slice A n c)) /\ Below w.heap.size w wr) (fun i _ => n - (intOf i).toNat)
    case atStart => exact ⟨0, by omega, rfl, hB, hb⟩
    case round =>
     obtain ⟨m, hm, rfl, hB, hb⟩ := hrel
     clear hcr hlB
     have hcr := hB.cell
     have hlB := hB.lt
     by_cases hlt : m < n
     · obtain ⟨ad, rfl, hbl, e0, e1, e2, e3, e4, e5⟩ := qd0 (hr.below hb) hN.out m (by have := hN.out; omega)
       have ho := hshots m (by have := hN.out; omega)
       generalize g.qaa[m]'(by have := hN.out; omega) = s at e0 e1 e2 e3 e4 e5 ho
       obtain ⟨owner, x, y, vx, vy, left⟩ := s
       dsimp only at e0 e1 e2 e3 e4 e5
       obtain ⟨o1, o2, o3, o4, o5, o6, o7, o8⟩ := ho
       unfold Gm.inF Gm.slow at *
       dsimp only at o1 o2 o3 o4 o5 o6 o7 o8
       have hmn : (m : Int) < n := by omega
       clear hr hshots
       go_wp2
       go_roundw
       case rel => exact ⟨m + 1, by omega, by go_num, hB.alloc _, hb.alloc (Nat.le_of_lt hlB) _⟩
       case measure => simp [intOf]; omega
     · have hmn : ¬ (m : Int) < n := by omega
       clear hr
       go_wp2
       go_ret
       exact ⟨rfl, hb⟩
section
variable {w : World} {B : Nat} {g : Gm.G} {s : Value}
theorem qkf (h : Box w B 31 (Gm.cells g s)) (d : Int) : Box (w.setCell ⟨B, 0, none⟩ (.int .i64 d)) B 31 (Gm.cells { g with frame := d } s) := h.put 0 _
theorem qgh (h : Box w B 31 (Gm.cells g s)) (d : Int) : Box (w.setCell ⟨B, 1, none⟩ (.int .u64 d)) B 31 (Gm.cells { g with dice := d } s) := h.put 1 _
theorem qch (h : Box w B 31 (Gm.cells g s)) (s' : Value) : Box (w.setCell ⟨B, 58, none⟩ s') B 31 (Gm.cells g s') := h.put 58 _
theorem qnJ (a b s : Value) (f : Nat -> Gm.Ship) (i : Nat) (hi : i < 8) (t : Gm.Ship) :
 (((((((([a, b] ++ Gm.qbd f ++ [s]).set (2 + i * 7) (.bool t.on)).set (2 + i * 7 + 1) (.int .i32 t.x)).set (2 + i * 7 + 2) (.int .i32 t.y)).set (2 + i * 7 + 3) (.int .i32 t.vx)).set (2 + i * 7 + 4) (.int .i32 t.vy)).set (2 + i * 7 + 5) (.int .i64 t.cool)).set (2 + i * 7 + 6) (.int .i64 t.score)) = [a, b] ++ Gm.qbd (Gm.upd f i t) ++ [s] := by
 match i, hi with
 | 0, _ => rfl
 | 1, _ => rfl
 | 2, _ => rfl
 | 3, _ => rfl
 | 4, _ => rfl
 | 5, _ => rfl
 | 6, _ => rfl
 | 7, _ => rfl
theorem set7 (g : Gm.G) (s : Value) (i : Nat) (hi : i < 8) (t : Gm.Ship) :
 ((((((((Gm.cells g s).setIfInBounds (2 + i * 7) (.bool t.on)).setIfInBounds (2 + i * 7 + 1) (.int .i32 t.x)).setIfInBounds (2 + i * 7 + 2) (.int .i32 t.y)).setIfInBounds (2 + i * 7 + 3) (.int .i32 t.vx)).setIfInBounds (2 + i * 7 + 4) (.int .i32 t.vy)).setIfInBounds (2 + i * 7 + 5) (.int .i64 t.cool)).setIfInBounds (2 + i * 7 + 6) (.int .i64 t.score)) = Gm.cells { g with ship := Gm.upd g.ship i t } s := by
 unfold Gm.cells
 simp only [List.setIfInBounds_toArray]
 rw [qnJ _ _ _ _ _ hi]
theorem qdH (h : Box w B 31 (Gm.cells g s)) {i : Nat} (hi : i < 8) (t : Gm.Ship) :
 Box (((((((w.setCell ⟨B, 2 + i * 7, none⟩ (.bool t.on)).setCell ⟨B, 2 + i * 7 + 1, none⟩ (.int .i32 t.x)).setCell ⟨B, 2 + i * 7 + 2, none⟩ (.int .i32 t.y)).setCell ⟨B, 2 + i * 7 + 3, none⟩ (.int .i32 t.vx)).setCell ⟨B, 2 + i * 7 + 4, none⟩ (.int .i32 t.vy)).setCell ⟨B, 2 + i * 7 + 5, none⟩ (.int .i64 t.cool)).setCell ⟨B, 2 + i * 7 + 6, none⟩ (.int .i64 t.score)) B 31 (Gm.cells { g with ship := Gm.upd g.ship i t } s) := by
 rw [<- set7 g s i hi t]
 exact ((((((h.put _ _).put _ _).put _ _).put _ _).put _ _).put _ _).put _ _
end
theorem qbh : (Tryz.prog.info? 31).map (·.size) = some 59 := by kernel_rfl
theorem cells_one (g : Gm.G) (s : Value) (h : s.oneCell' = true) : (Gm.cells g s).all (·.oneCell') = true := by
 refine Array.all_eq_true_iff_forall_mem.2 fun v hv => ?_
 have hv : v ∈ [Value.int .i64 g.frame, Value.int .u64 g.dice] ++ Gm.qbd g.ship ++ [s] := by simpa [Gm.cells] using hv
 simp only [Gm.qbd, Gm.Ship.cells, List.mem_append, List.mem_cons, List.not_mem_nil, or_false] at hv
 rcases hv with ((rfl | rfl) | hv) | rfl
 · rfl
 · rfl
 · rcases hv with hv | hv | hv | hv | hv | hv | hv | hv <;> (rcases hv with rfl | rfl | rfl | rfl | rfl | rfl | rfl <;> rfl)
 · exact h
def qbx : Gm.G := ⟨0, 0, fun _ => Gm.Ship.none, []⟩
theorem qjW : (Tryz.prog.info? 31).map (·.zero) = some (some (.agg (Gm.cells qbx (.slice none 0 0)))) := by kernel_rfl
theorem qoM (d : Int) : Tryz.prog.built 31 [(1, .int .u64 d)] = some (Gm.cells (Gm.new d) (.slice none 0 0)) := by kernel_rfl
theorem qh6 (x y c : Int) : Tryz.prog.built 27 [(0, .bool true), (1, .int .i32 x), (2, .int .i32 y), (6, .int .i64 c)] = some #[.bool true, .int .i32 x, .int .i32 y, .int .i32 0, .int .i32 0, .int .i64 0, .int .i64 c] := by kernel_rfl
theorem qlr (x y : Int) : Tryz.prog.built 27 [(0, .bool true), (1, .int .i32 x), (2, .int .i32 y)] = some #[.bool true, .int .i32 x, .int .i32 y, .int .i32 0, .int .i32 0, .int .i64 0, .int .i64 0] := by kernel_rfl
section
variable {ops : Array Oper} {rest : List Oper} {o : Oper} {a : Act} {w : World} {Q : Exit -> Act -> World -> Prop}
theorem qfV {x : Operand} {B : Nat} {g : Gm.G} {s : Value} (hgd : o.guard = none) (ho : o.op = .load 31 x) (hx : a.eval x = .pointer (some ⟨B, 0, none⟩)) (hB : Box w B 31 (Gm.cells g s))
 (h : wpList Tryz.prog ops Q rest (a.put o.dst (.agg (Gm.cells g s))) w) : wpList Tryz.prog ops Q (o :: rest) a w :=
 qbO hgd ho hx hB Tryz.underlying31 rfl qbh h
theorem qaK (hgd : o.guard = none) (ho : o.op = .alloc 31)
 (h : wpList Tryz.prog ops Q rest (a.put o.dst (.pointer (some ⟨w.heap.size, 0, none⟩))) (w.alloc (.cells (Gm.cells qbx (.slice none 0 0)) 31))) : wpList Tryz.prog ops Q (o :: rest) a w :=
 qbB hgd ho qjW rfl h
theorem qaL {x y : Operand} {v : World} {old : Array Value} {g : Gm.G} {s : Value} (hgd : o.guard = none) (ho : o.op = .store 31 x y) (hx : a.eval x = .pointer (some ⟨v.heap.size, 0, none⟩)) (hy : a.eval y = .agg (Gm.cells g s))
 (hs : s.oneCell' = true) (hold : old.size = 59) (h : wpList Tryz.prog ops Q rest (a.put o.dst undef) (v.alloc (.cells (Gm.cells g s) 31))) : wpList Tryz.prog ops Q (o :: rest) a (v.alloc (.cells old 31)) :=
 qbv hgd ho hx hy rfl rfl qbh hold (cells_one _ _ hs) h
theorem qfe {x y : Operand} {B : Nat} {g g' : Gm.G} {s s' : Value} (hgd : o.guard = none) (ho : o.op = .store 31 x y) (hx : a.eval x = .pointer (some ⟨B, 0, none⟩)) (hy : a.eval y = .agg (Gm.cells g s))
 (hs : s.oneCell' = true) (hB : Box w B 31 (Gm.cells g' s')) (h : wpList Tryz.prog ops Q rest (a.put o.dst undef) (w.setRow B (Gm.cells g s))) : wpList Tryz.prog ops Q (o :: rest) a w :=
 qbw hgd ho hx hy hB qbh rfl (cells_one _ _ hs) h
def qaN (ops : Array Oper) (Q : Exit -> Act -> World -> Prop) (rest : List Oper) (dst : Option Tmp) (p : Value) (a : Act) (w : World) : Prop :=
 ∃ (B : Nat) (g : Gm.G) (s : Value), p = .pointer (some ⟨B, 0, none⟩) /\ Box w B 31 (Gm.cells g s) /\ wpList Tryz.prog ops Q rest (a.put dst (.agg (Gm.cells g s))) w
theorem qaN.mk {dst : Option Tmp} {p : Value} {B : Nat} {g : Gm.G} {s : Value} (hp : p = .pointer (some ⟨B, 0, none⟩)) (hB : Box w B 31 (Gm.cells g s)) (h : wpList Tryz.prog ops Q rest (a.put dst (.agg (Gm.cells g s))) w) : qaN ops Q rest dst p a w := ⟨B, g, s, hp, hB, h⟩
theorem qaF {x : Operand} (hgd : o.guard = none) (ho : o.op = .load 31 x) (h : qaN ops Q rest o.dst (a.eval x) a w) : wpList Tryz.prog ops Q (o :: rest) a w := by
 obtain ⟨B, g, s, hx, hB, h⟩ := h
 exact qfV hgd ho hx hB h
def qbm (ops : Array Oper) (Q : Exit -> Act -> World -> Prop) (rest : List Oper) (dst : Option Tmp) (p v : Value) (a : Act) (w : World) : Prop :=
 ∃ (B : Nat) (g : Gm.G) (s : Value) (g' : Gm.G) (s' : Value), p = .pointer (some ⟨B, 0, none⟩) /\ v = .agg (Gm.cells g s) /\ s.oneCell' = true /\ Box w B 31 (Gm.cells g' s') /\ wpList Tryz.prog ops Q rest (a.put dst undef) (w.setRow B (Gm.cells g s))
theorem qbm.mk {dst : Option Tmp} {p v : Value} {B : Nat} {g g' : Gm.G} {s s' : Value} (hp : p = .pointer (some ⟨B, 0, none⟩)) (hv : v = .agg (Gm.cells g s)) (hs : s.oneCell' = true) (hB : Box w B 31 (Gm.cells g' s')) (h : wpList Tryz.prog ops Q rest (a.put dst undef) (w.setRow B (Gm.cells g s))) : qbm ops Q rest dst p v a w := ⟨B, g, s, g', s', hp, hv, hs, hB, h⟩
theorem qbq {x y : Operand} (hgd : o.guard = none) (ho : o.op = .store 31 x y) (h : qbm ops Q rest o.dst (a.eval x) (a.eval y) a w) : wpList Tryz.prog ops Q (o :: rest) a w := by
 obtain ⟨B, g, s, g', s', hx, hy, hs, hB, h⟩ := h
 exact qfe hgd ho hx hy hs hB h
end
theorem qdo : (Tryz.prog.info? 80).map (fun i => (i.zero, i.size, i.bytes)) = some (some (.agg #[.int .i64 0, .int .i32 0, .int .i32 0, .int .i32 0, .int .i32 0, .int .i64 0]), 6, 32) := by kernel_rfl
theorem qbG (l : List Gm.Shot) : ∀ u ∈ Gm.qad l, u.oneCell' = true := by
 intro u hu
 obtain ⟨s, _, hs⟩ := List.mem_flatMap.1 hu
 simp only [Gm.Shot.cells, List.mem_cons, List.not_mem_nil, or_false] at hs
 rcases hs with rfl | rfl | rfl | rfl | rfl | rfl <;> rfl
theorem qoF (w1 : World) (B : Nat) (o : Obj) (hB : B <= w1.heap.size) : ((w1.alloc o).alloc (.cells #[] 80)).ownsRow B 80 6 (.slice (some ⟨w1.heap.size + 1, 0, none⟩) 0 0) 0 [] := by
 have := World.ownsRow_lit (base := B) (e := 80) (size := 6) (w1.alloc o) #[] 0 (by simp <;> omega) (by unfold maxLen; omega) rfl
 simpa using this
theorem qpv {w : World} {size n : Nat} {A : Option Addr} {xs : List Value} (h : Lies w w.heap.size size A n xs) (o1 o2 : Obj) : Lies ((w.alloc o1).alloc o2) ((w.alloc o1).alloc o2).heap.size size A n xs :=
 (h.below (qap w o1 o2)).wider (by simp <;> omega)
def stored (w : World) (B k : Nat) (t : Gm.Ship) : World :=
 ((((((w.setCell ⟨B, 2 + k * 7, none⟩ (.bool t.on)).setCell ⟨B, 2 + k * 7 + 1, none⟩ (.int .i32 t.x)).setCell ⟨B, 2 + k * 7 + 2, none⟩ (.int .i32 t.y)).setCell ⟨B, 2 + k * 7 + 3, none⟩ (.int .i32 t.vx)).setCell ⟨B, 2 + k * 7 + 4, none⟩ (.int .i32 t.vy)).setCell ⟨B, 2 + k * 7 + 5, none⟩ (.int .i64 t.cool)).setCell ⟨B, 2 + k * 7 + 6, none⟩ (.int .i64 t.score)
theorem qcQ {w : World} {B B' k : Nat} {t : TypeId} {cs : Array Value} (h : Box w B' t cs) (hne : B' ≠ B) (s : Gm.Ship) : Box (stored w B k s) B' t cs :=
 ((((((h.far hne _).far hne _).far hne _).far hne _).far hne _).far hne _).far hne _
theorem qda {w0 w : World} {C B k : Nat} (h : Below C w0 w) (hC : C <= B) (s : Gm.Ship) : Below C w0 (stored w B k s) :=
 ((((((h.setCell hC _).setCell hC _).setCell hC _).setCell hC _).setCell hC _).setCell hC _).setCell hC _
theorem qfg {w : World} {base : Nat} {e : TypeId} {size n B k : Nat} {v : Value} {xs : List Value} (h : w.ownsRow base e size v n xs) (hne : v.ownBlock ≠ some B) (s : Gm.Ship) : (stored w B k s).ownsRow base e size v n xs :=
 ownsRow_setCell_other (ownsRow_setCell_other (ownsRow_setCell_other (ownsRow_setCell_other (ownsRow_setCell_other (ownsRow_setCell_other (ownsRow_setCell_other h hne _) hne _) hne _) hne _) hne _) hne _) hne _
theorem qdT (w : World) (t : TypeId) (s : Gm.Shot) : Lies (w.alloc (.cells #[.int .i64 s.owner, .int .i32 s.x, .int .i32 s.y, .int .i32 s.vx, .int .i32 s.vy, .int .i64 s.left] t)) (w.alloc (.cells #[.int .i64 s.owner, .int .i32 s.x, .int .i32 s.y, .int .i32 s.vx, .int .i32 s.vy, .int .i64 s.left] t)).heap.size 6 (some ⟨w.heap.size, 0, none⟩) 1 (Gm.qad [s]) := by
 refine ⟨rfl, fun _ => ⟨_, rfl, by simp⟩, fun ad e _ j u hu => ?_⟩
 injection e with e
 subst e
 have hadd : (⟨w.heap.size, 0, none⟩ : Addr).add j = ⟨w.heap.size, j, none⟩ := by unfold Addr.add; split <;> simp_all
 rw [hadd, (Box.made w t _).cell j, <- hu]
 simp [Gm.qad, Gm.Shot.cells]
end Go.Proofs.YtmiopphcfdlneaaGreat