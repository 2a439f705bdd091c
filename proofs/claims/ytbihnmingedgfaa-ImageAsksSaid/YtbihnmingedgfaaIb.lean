/-
The program's writer: a number's bytes are put behind the others.
-/
import Derived.Test.YtbihnmingedgfaaIa
import Derived.Test.YtbihnmingedgfaaRp
namespace Go.Proofs.Ytbihnmingedgfaa
open Go.RowKit Go.Shelf
set_option linter.unusedVariables false

theorem append_runs' {P : Program} (w : World) {t ty e : TypeId} {i : TypeInfo} {z : Value} {size bytes : Nat} (ht : P.underlying t = some (.slice e)) (hi : P.info? e = some i) (hz : i.zero = some z) (hs : i.size = size) (hby : i.bytes = bytes) (hzs : z.cells.size = size) (hsz : 0 < size)
    {base n : Nat} {v : Value} {xs : List Value} (ho : w.ownsRow base e size v n xs) {ad : Addr} {m c : Nat} {news : List Value} (hl : Lies w w.heap.size size (some ad) m news) (hm : m ≠ 0) (h1 : ∀ u ∈ news, u.oneCell' = true) (h63 : n + m ≤ maxLen) (hb : (n + m) * bytes ≤ 140737488355328) (hbase : base ≤ w.heap.size) :
    ∃ A' c' w', (Builtin.append_ #[t, t] ty #[v, .slice (some ad) m c]).run P w = .ok (.slice A' (n + m) c') w' ∧ w'.ownsRow base e size (.slice A' (n + m) c') (n + m) (xs ++ news) ∧ w.grownBy w' v.ownBlock := by
  obtain ⟨v', w', hr, h2, h3, _, _⟩ := run_append_own_at (P := P) w base t ty e i z size bytes ht hi hz hs hby hzs hsz v n xs ho ad m c news hl.len (fun j u hu => hl.cell ad rfl hm j u hu) h1 h63 hb hbase
  obtain ⟨A', c', rfl⟩ := owned_slice h2
  exact ⟨A', c', w', hr, h2, h3⟩
theorem exec_append' {P : Program} {o : Oper} {a : Act} {x y : Operand} {ts : Array TypeId} {W W' : World} {v1 v2 r : Value} (ho : o.op = .call { callee := .builtin .append, args := #[x, y], argTypes := ts }) (hx : a.eval x = v1) (hy : a.eval y = v2) (hr : (Builtin.append_ ts o.type #[v1, v2]).run P W = .ok r W') :
    (execOp a.eval o).run P W = .ok (.value r) W' := by
  unfold execOp
  simp only [ho, resolve, invoke, builtin, Sem.run_bind, Sem.run_pure, Result.andThen_ok, List.map_toArray, List.map_cons, List.map_nil, hx, hy, hr]
theorem u8_info : (Try.prog.info? 5).map (fun i => (i.zero, i.size, i.bytes)) = some (some (.int .u8 0), 1, 1) := by kernel_rfl
theorem u8_parts : ∃ i, Try.prog.info? 5 = some i ∧ i.zero = some (.int .u8 0) ∧ i.size = 1 ∧ i.bytes = 1 := by
  have h := u8_info
  cases hq : Try.prog.info? 5 with
  | none => rw [hq] at h; cases h
  | some i =>
    rw [hq] at h
    simp only [Option.map_some, Option.some.injEq, Prod.mk.injEq] at h
    exact ⟨i, rfl, h.1, h.2.1, h.2.2⟩
theorem lies_byte (w : World) (x : Int) : Lies (w.alloc (.cells #[.int .u8 x] 5)) (w.alloc (.cells #[.int .u8 x] 5)).heap.size 1 (some ⟨w.heap.size, 0, none⟩) 1 (Im.u8s [x]) := by
  refine ⟨rfl, fun _ => ⟨_, rfl, by simp⟩, fun ad e _ j u hu => ?_⟩
  injection e with e
  subst e
  have hadd : (⟨w.heap.size, 0, none⟩ : Addr).add j = ⟨w.heap.size, j, none⟩ := by unfold Addr.add; split <;> simp_all
  rw [hadd, (Box.made w _ _).cell j, ← hu]
  simp [Im.u8s]

set_option maxRecDepth 100000 in
set_option maxHeartbeats 4000000 in
theorem write_any (size : Nat) (v : Int) (bs : List Int) (b Bb Bp : Nat) (w : World) (hs : size ≤ 8) (hv : 0 ≤ v ∧ v ≤ 18446744073709551615) (hbB : b ≤ Bb) (h : Wr b Bb Bp bs w) (hl : bs.length + size ≤ 65536) :
    Calls Try.prog 129 #[.int .i64 size, .int .u64 v, .pointer (some ⟨Bp, 0, none⟩)] w fun e w' => e = .returned (.int .u64 v) ∧ Wr b Bb Bp (bs ++ Im.bytesOf size v) w' ∧ Wrote b Bb w w' := by
  have HH := Lib.hid h
  clear h
  go_enter Try.func129, Try.ntmps129
  go_wp2
  go_loopw [8] (fun i wr => ∃ k : Nat, k ≤ size ∧ i = .int .i64 k ∧ Wr b Bb Bp (bs ++ Im.bytesOf k v) wr ∧ Wrote b Bb w wr) (fun i _ => size - (intOf i).toNat)
  case atStart => exact ⟨0, by omega, rfl, by simpa [Im.bytesOf] using HH.out, Wrote.refl hbB w⟩
  case round =>
    obtain ⟨k, hk, rfl, hI, hK⟩ := hrel
    by_cases hlt : k < size
    · have hk8 : (k : Int) < size := by omega
      obtain ⟨A, c, hB, hO⟩ := hI.var
      have hP := hI.ptr
      have hlen : (bs ++ Im.bytesOf k v).length = bs.length + k := by rw [List.length_append, Im.bytesOf_len]
      rw [hlen] at hB hO
      generalize hn : bs.length + k = n at *
      have HI := Lib.hid hI
      have HK := Lib.hid hK
      have HP := Lib.hid hP
      have HB := Lib.hid hB
      have HO := Lib.hid hO
      clear hI hP hB hO hK
      have h8 : IntKind.i64.wrap (8 * (k : Int)) = 8 * k := by rw [IntKind.wrap_i64]; omega
      have hq : 0 ≤ v / 2 ^ (8 * k) ∧ v / 2 ^ (8 * k) ≤ 18446744073709551615 := by
        have hp : (0 : Int) < 2 ^ (8 * k) := Int.pow_pos (by decide)
        exact ⟨Int.ediv_nonneg hv.1 (Int.le_of_lt hp), Int.le_trans (Int.ediv_le_self _ hv.1) hv.2⟩
      obtain ⟨x, hx⟩ : ∃ x, x = v / 2 ^ (8 * k) % 256 := ⟨_, rfl⟩
      have hsn : bs ++ Im.bytesOf (k + 1) v = (bs ++ Im.bytesOf k v) ++ [x] := by rw [hx]; simp [Im.bytesOf]
      have hxw : IntKind.u8.wrap (v / 2 ^ (8 * (k : Int)).toNat) = x := by rw [show (8 * (k : Int)).toNat = 8 * k by omega, IntKind.wrap_u8, hx]
      have HSN := Lib.hid hsn
      clear hsn hx
      go_upto_region 4 with fail
      refine Rp.wp_region_lex (by kernel_rfl) [] (by kernel_rfl) (· = wr.drew) (fun W => Box W Bp 120 #[.pointer (some ⟨Bb, 0, none⟩)] ∧ Box W Bb 54 #[.slice A n c]) (fun _ => True) rfl (fun W hW => ⟨hW ▸ ⟨HP.out.drew, HB.out.drew⟩, trivial⟩) ?_
      repeat (first
        | (apply Rp.lex_free rfl rfl; focus (intro _; go_simp; first | done | rfl))
        | (apply Rp.lex_look rfl rfl rfl rfl; focus (intro W hW; obtain ⟨hW1, hW2⟩ := hW; have c0 := Box.cell hW1; have c1 := Box.cell hW2; clear hW1 hW2; go_simp; first | done | rfl)))
      obtain ⟨i0, hi0, hz0, hz1, hz2⟩ := u8_parts
      have szb : b ≤ wr.heap.size := Nat.le_trans hbB (Nat.le_of_lt HB.out.lt)
      obtain ⟨A2, c2, w2, hrun, own2, hg2⟩ := append_runs' (P := Try.prog) _ (ty := 54) Try.underlying54 hi0 hz0 hz1 hz2 rfl (by decide) ((HO.out.drew).alloc (.cells #[.int .u8 x] 5)) (c := 1) (lies_byte wr.drew x) (by decide) (Im.u8s_one _) (by unfold maxLen; omega) (by omega) (by simp; omega)
      have B2 := Lib.hid (grown_box HB.out.drew HO.out.drew (by decide) hg2)
      have P2 := Lib.hid (grown_box HP.out.drew HO.out.drew (by decide) hg2)
      have K2 := Lib.hid (HK.out.drew.grown' HO.out.drew hg2)
      have OW := Lib.hid own2
      have neP : Bp ≠ Bb := HI.out.ne
      clear own2 hg2
      refine Rp.lex_make rfl (W' := wr.drew.alloc (.cells #[.int .u8 x] 5)) (v := .slice (some ⟨wr.drew.heap.size, 0, none⟩) 1 1) ?_ ⟨⟨HP.out.drew.alloc _, HB.out.drew.alloc _⟩, trivial⟩ ?_
      focus (go_simp; first | done | rfl)
      refine Rp.lex_make rfl (W' := w2) (v := .slice A2 (n + 1) c2) (exec_append' (x := .tmp 14) (y := .tmp 20) (v1 := .slice A n c) (v2 := .slice (some ⟨wr.drew.heap.size, 0, none⟩) 1 1) rfl (by go_simp) (by go_simp) hrun) ⟨⟨P2.out, B2.out⟩, trivial⟩ ?_
      repeat (first
        | (apply Rp.lex_free rfl rfl; focus (intro _; go_simp; first | done | rfl))
        | (apply Rp.lex_look rfl rfl rfl rfl; focus (intro W hW; obtain ⟨hW1, hW2⟩ := hW; have c0 := Box.cell hW1; have c1 := Box.cell hW2; clear hW1 hW2; go_simp; first | done | rfl)))
      refine Rp.lex_store rfl rfl (C' := (· = w2.setCell ⟨Bb, 0, none⟩ (.slice A2 (n + 1) c2))) (D' := fun _ => True) (fun W hW => ⟨_, ?_, rfl⟩) (fun _ _ => ⟨trivial, trivial⟩) ?_
      focus (subst hW; have f2 := B2.out.free; have k2 := B2.out.cell; go_simp; first | done | rfl)
      refine Rp.lex_end fun W2 hW2 => ?_
      have ne2 := B2.out.unowned OW.out (by decide)
      have H3 : Wr b Bb Bp (bs ++ Im.bytesOf (k + 1) v) W2 := by
        subst hW2
        have hlen3 : ((bs ++ Im.bytesOf k v) ++ [x]).length = n + 1 := by rw [List.length_append, hlen]; rfl
        rw [HSN.out]
        refine ⟨P2.out.far (by show Bp ≠ Bb; exact neP) _, A2, c2, ?_, ?_⟩
        · rw [hlen3]; exact B2.out.put 0 _
        · rw [hlen3, Im.u8s_append]; exact ownsRow_setCell_other (a := ⟨Bb, 0, none⟩) OW.out ne2 _
      have K3 : Wrote b Bb w W2 := by subst hW2; exact K2.out.put _ _
      have H4 := Lib.hid H3
      have K4 := Lib.hid K3
      clear H3 K3 hW2 hrun ne2 hlen
      go_wp2
      go_roundw
      case rel => exact ⟨k + 1, by omega, by go_num, H4.out, K4.out⟩
      case measure => simp [intOf]; omega
    · have hk8 : ¬ (k : Int) < size := by omega
      obtain rfl : k = size := by omega
      have HI := Lib.hid hI
      have HK := Lib.hid hK
      clear hI hK
      go_wp2
      go_ret
      exact ⟨rfl, HI.out, HK.out⟩
end Go.Proofs.Ytbihnmingedgfaa
