/-
Several texts in one: Oc Oz Qh I3 I4 I5 Ix I6.
-/
import Derived.Test.YtghomofakpjglaaWi6
namespace Go.Proofs.Ytghomofakpjglaa
open Go.RowKit Go.Shelf
set_option linter.unusedVariables false
set_option linter.unusedSimpArgs false

theorem conv_bytes (l : List Int) (m : Nat) (A : Option Addr) (c : Nat) (w : World) (B : Nat) (hm : l.length = m) (hL : Lies w B 1 A m (Im.u8s l)) :
    (convert 36 9 (.slice A m c)).run Try.prog w = .ok (.string (strOfNums l)) w := by
  cases A with
  | none =>
    have hm0 : m = 0 := by
      by_cases h0 : m = 0
      · exact h0
      · obtain ⟨ad, e, _⟩ := hL.start h0
        cases e
    have hl0 : l = [] := List.eq_nil_of_length_eq_zero (by omega)
    subst hl0
    exact run_convert_bytes_nil (P := Try.prog) (w := w) 36 5 Try.underlying36 Try.underlying5 m c 9 Try.underlying9
  | some ad =>
    have hl : (loadCells ad m).run Try.prog w = .ok (l.map (Value.int .u8)).toArray w := by
      have := run_loadCells_list (P := Try.prog) w ad (l.map (Value.int .u8)) (fun j v hj => hL.cell ad rfl (fun h0 => by
        have := (List.getElem?_eq_some_iff.1 hj).1
        rw [List.length_map] at this
        omega) j v hj)
      simpa [hm] using this
    rw [run_convert_bytes_string w 36 9 5 _ m c Try.underlying36 Try.underlying5 Try.underlying9, run_bytesToString w _ m c l hl, foldl_push_bytes]
    simp [strOfNums, ByteArray.empty, ByteArray.emptyWithCapacity]
    rfl

end Go.Proofs.Ytghomofakpjglaa
namespace By
open Go
theorem xor_nat (a b : Nat) (ha : a < 256) (hb : b < 256) : bits .xor .u8 (a : Int) (b : Int) = ((a ^^^ b : Nat) : Int) := by
  have hx : a ^^^ b < 2 ^ 8 := Nat.xor_lt_two_pow (by omega) (by omega)
  show IntKind.u8.wrap ((BitVec.ofInt 8 (a : Int) ^^^ BitVec.ofInt 8 (b : Int)).toNat : Int) = _
  rw [BitVec.toNat_xor, BitVec.toNat_ofInt, BitVec.toNat_ofInt, IntKind.wrap_u8]
  rw [show ((a : Int) % ((2 ^ 8 : Nat) : Int)).toNat = a from by omega, show ((b : Int) % ((2 ^ 8 : Nat) : Int)).toNat = b from by omega]
  omega
theorem xor_turn {x c : Int} (hx : 0 ≤ x ∧ x ≤ 255) (hc : 0 ≤ c ∧ c ≤ 255) : ∃ v : Int, bits .xor .u8 x c = v ∧ (0 ≤ v ∧ v ≤ 255) ∧ (v = x ↔ c = 0) := by
  obtain ⟨a, rfl⟩ := Int.eq_ofNat_of_zero_le hx.1
  obtain ⟨b, rfl⟩ := Int.eq_ofNat_of_zero_le hc.1
  have h := xor_nat a b (by omega) (by omega)
  have hlt : a ^^^ b < 2 ^ 8 := Nat.xor_lt_two_pow (by omega) (by omega)
  refine ⟨_, h, by omega, ⟨fun e => ?_, fun e => ?_⟩⟩
  · have e' : a ^^^ b = a := by exact_mod_cast e
    have e2 : a ^^^ (a ^^^ b) = a ^^^ a := by rw [e']
    rw [← Nat.xor_assoc, Nat.xor_self, Nat.zero_xor] at e2
    omega
  · have : b = 0 := by omega
    subst this
    rw [Nat.xor_zero]
theorem set_bytes {l : List Int} (h : Im.IsBytes l) (k : Nat) {v : Int} (hv : 0 ≤ v ∧ v ≤ 255) : Im.IsBytes (l.set k v) := fun x hx => by
  rcases List.mem_or_eq_of_mem_set hx with hx | rfl
  · exact h x hx
  · exact hv
theorem set_same_iff {l : List Int} {k : Nat} (hk : k < l.length) (v : Int) : l.set k v = l ↔ v = l[k] := by
  constructor
  · intro h
    have := congrArg (fun m => m[k]?) h
    simp [hk] at this
    exact this
  · rintro rfl
    exact List.set_getElem_self hk
end By
namespace Go.Proofs.Ytghomofakpjglaa
open Go.RowKit Go.Shelf
set_option linter.unusedVariables false
set_option linter.unusedSimpArgs false

theorem u8_size : (Try.prog.info? 5).map (·.size) = some 1 := by kernel_rfl
theorem below_grown {B : Nat} {w0 w w' : World} {row : Option Nat} (h : Below B w0 w) (hg : w.grownBy w' row) (hr : ∀ r, row = some r → B ≤ r) (hB : B ≤ w0.heap.size) : Below B w0 w' :=
  ⟨hg.os.trans h.os, hg.tape.trans h.tape, hg.output.trans h.output, Nat.le_trans h.size hg.size, fun i hi => (hg.block i (Nat.lt_of_lt_of_le hi (Nat.le_trans hB h.size)) (fun e => by have := hr i e.symm; omega)).trans (h.block i hi)⟩
theorem Lies.grown {w w' : World} {B size n : Nat} {A : Option Addr} {xs : List Value} {row : Option Nat} (h : Lies w B size A n xs) (hg : w.grownBy w' row) (hr : ∀ r, row = some r → B ≤ r) (hB : B ≤ w.heap.size) : Lies w' B size A n xs :=
  h.stays fun b hb => hg.block b (Nat.lt_of_lt_of_le hb hB) (fun e => by have := hr b e.symm; omega)

theorem Lies.take1 {w : World} {B n : Nat} {A : Option Addr} {bs : List Int} (h : Lies w B 1 A n (Im.u8s bs)) (k : Nat) (hk : k ≤ n) : Lies w B 1 A k (Im.u8s (bs.take k)) := by
  have hl := h.len
  rw [Im.u8s_len] at hl
  refine ⟨by rw [Im.u8s_len, List.length_take]; omega, fun h0 => h.start (by omega), fun ad e h0 j u hu => h.cell ad e (by omega) j u ?_⟩
  have e1 : Im.u8s (bs.take k) = (Im.u8s bs).take k := by unfold Im.u8s; rw [List.map_take]
  rw [e1, List.getElem?_take] at hu
  split at hu
  · exact hu
  · cases hu
theorem own_box {w : World} {base m c : Nat} {A : Option Addr} {bs : List Int} (h : w.ownsRow base 5 1 (.slice A m c) m (Im.u8s bs)) (hm : m ≠ 0) : ∃ g cur, A = some ⟨g, 0, none⟩ ∧ base ≤ g ∧ m ≤ c ∧ Box w g 5 cur ∧ ∀ (j : Nat) (x : Int), bs[j]? = some x → cur[j]? = some (Value.int .u8 x) := by
  obtain ⟨hl, ⟨_, h0⟩ | ⟨g, cap, cur, hv, hbg, hg, hnc, _, _, htake⟩⟩ := h
  · exact absurd h0 hm
  · injection hv with hA _ hc
    subst hc
    refine ⟨g, cur, hA, hbg, hnc, ⟨hg⟩, fun j x hj => ?_⟩
    have hlt : j < bs.length := (List.getElem?_eq_some_iff.1 hj).1
    have h1 : (Im.u8s bs)[j]? = some (Value.int .u8 x) := by unfold Im.u8s; rw [List.getElem?_map, hj]; rfl
    rw [← htake, List.getElem?_take] at h1
    split at h1
    · simpa using h1
    · cases h1
theorem Box.lies {w : World} {g m : Nat} {cur : Array Value} {bs : List Int} (h : Box w g 5 cur) (hm : bs.length = m) (hc : ∀ (j : Nat) (x : Int), bs[j]? = some x → cur[j]? = some (Value.int .u8 x)) : Lies w w.heap.size 1 (some ⟨g, 0, none⟩) m (Im.u8s bs) := by
  refine ⟨by rw [Im.u8s_len]; omega, fun _ => ⟨_, rfl, h.lt⟩, fun ad e h0 j u hu => ?_⟩
  injection e with e
  subst e
  have hadd : (⟨g, 0, none⟩ : Addr).add j = ⟨g, j, none⟩ := by unfold Addr.add; split <;> simp_all
  unfold Im.u8s at hu
  rw [List.getElem?_map] at hu
  cases hj : bs[j]? with
  | none => rw [hj] at hu; cases hu
  | some x =>
    rw [hj] at hu
    injection hu with hu
    subst hu
    rw [hadd, h.cell j]
    exact hc j x hj
theorem own_ge {w : World} {base : Nat} {e : TypeId} {size n : Nat} {v : Value} {xs : List Value} (h : w.ownsRow base e size v n xs) : ∀ r, v.ownBlock = some r → base ≤ r := fun r hr => by
  obtain ⟨_, ⟨rfl, _⟩ | ⟨g, cap, cur, rfl, hbg, _⟩⟩ := h
  · cases hr
  · have e' : g = r := by injection hr
    omega
theorem Box.over {w w' : World} {g B : Nat} {t : TypeId} {cs : Array Value} {row : Option Nat} (h : Box w g t cs) (hg : w.grownBy w' row) (hr : ∀ r, row = some r → B ≤ r) (hlt : g < B) : Box w' g t cs :=
  h.grown hg (fun e => by have := hr g e; omega)
end Go.Proofs.Ytghomofakpjglaa
namespace Go.Proofs.Ytghomofakpjglaa
open Go.RowKit Go.Shelf
set_option linter.unusedVariables false
set_option linter.unusedSimpArgs false

/-- What is got out of other bytes is another state. -/
theorem Im.other {g y : Gm.G} {r yr : Ros.R} (hok : Im.Ok g r) (hd : 0 ≤ g.dice ∧ g.dice ≤ 18446744073709551615) {t : List Int} (hB : Im.IsBytes t) (h : Im.get t = some (y, yr)) : Im.Like g r y yr ↔ t = Im.put g r := by
  obtain ⟨h1, h2, h3⟩ := Im.get_some hB h
  constructor
  · intro hl; rw [← h3]; exact (Im.put_like hl).symm
  · intro ht
    obtain ⟨g', r', h4, h5⟩ := Im.get_put hok hd
    rw [← ht, h] at h4
    injection h4 with h4
    injection h4 with e1 e2
    subst e1 e2
    exact h5
theorem imget_yes (g : Gm.G) (r : Ros.R) (hok : Im.Ok g r) (hd : 0 ≤ g.dice ∧ g.dice ≤ 18446744073709551615) (A : Option Addr) (n c : Nat) (w : World) (hn : n = (Im.put g r).length) (hc : n ≤ c) (hL : Lies w w.heap.size 1 A n (Im.u8s (Im.put g r))) :
    Calls Try.prog 17 #[.slice A n c] w fun r' w' => ∃ g1 r1 S, Im.Like g r g1 r1 ∧ Im.get (Im.put g r) = some (g1, r1) ∧ r' = .returned (.tuple #[.agg (Im.cells g1 (.slice (some ⟨S, 0, none⟩) g1.shots.length g1.shots.length) r1), .int .i64 0]) ∧ Box w' S 88 (Gm.shotCells g1.shots).toArray ∧ Below w.heap.size w w' := by
  refine (imget_any (Im.put g r) A n c w hn hc (Im.put_bytes g r) hL).mono fun r' w' h => ?_
  obtain ⟨g1, r1, h1, h2⟩ := Im.get_put hok hd
  rcases h with ⟨g2, r2, S, hg, h3⟩ | ⟨hg, _⟩
  · rw [h1] at hg
    injection hg with hg
    injection hg with e1 e2
    subst e1 e2
    exact ⟨g1, r1, S, h2, h1, h3⟩
  · rw [h1] at hg; cases hg
theorem imget_no (z0 : Gm.G) (zr : Ros.R) (hz : Im.zero = Im.cells z0 (.slice none 0 0) zr) (bs : List Int) (hg : Im.get bs = none) (A : Option Addr) (n c : Nat) (w : World) (hn : n = bs.length) (hc : n ≤ c) (hBy : Im.IsBytes bs) (hL : Lies w w.heap.size 1 A n (Im.u8s bs)) :
    Calls Try.prog 17 #[.slice A n c] w fun r w' => r = .returned (.tuple #[.agg (Im.cells z0 (.slice none 0 0) zr), .int .i64 2]) ∧ Below w.heap.size w w' := by
  refine (imget_any bs A n c w hn hc hBy hL).mono fun r w' h => ?_
  rcases h with ⟨g1, r1, S, h1, h3⟩ | ⟨_, h3⟩
  · rw [hg] at h1; cases h1
  · rw [← hz]; exact h3
theorem imget_say (z0 : Gm.G) (zr : Ros.R) (hz : Im.zero = Im.cells z0 (.slice none 0 0) zr) (bs : List Int) (A : Option Addr) (n c : Nat) (w : World) (hn : n = bs.length) (hc : n ≤ c) (hBy : Im.IsBytes bs) (hL : Lies w w.heap.size 1 A n (Im.u8s bs)) :
    Calls Try.prog 17 #[.slice A n c] w fun r' w' => (∃ y yr S2, Im.get bs = some (y, yr) ∧ r' = .returned (.tuple #[.agg (Im.cells y (.slice (some ⟨S2, 0, none⟩) y.shots.length y.shots.length) yr), .int .i64 0]) ∧ Box w' S2 88 (Gm.shotCells y.shots).toArray ∧ Below w.heap.size w w') ∨ (Im.get bs = none ∧ r' = .returned (.tuple #[.agg (Im.cells z0 (.slice none 0 0) zr), .int .i64 2]) ∧ Below w.heap.size w w') := by
  refine (imget_any bs A n c w hn hc hBy hL).mono fun r w' h => ?_
  rcases h with h | h
  · exact .inl h
  · rw [← hz]; exact .inr h

set_option maxRecDepth 100000 in
set_option maxHeartbeats 8000000 in
theorem back7_law (g : Gm.G) (r : Ros.R) (A : Option Addr) (n c : Nat) (at0 cb : Int) (w : World) (hty : Gm.ty g) (hn : n = g.shots.length) (hn63 : n ≤ maxLen) (hr : Lies w w.heap.size 6 A n (Gm.shotCells g.shots)) (hat : -9223372036854775808 ≤ at0 ∧ at0 ≤ 9223372036854775807) (hcb : 0 ≤ cb ∧ cb ≤ 255) :
    Calls Try.prog 4 #[.agg (Im.cells g (.slice A n c) r), .int .i64 at0, .int .u8 cb] w fun e w' => e = .returned (.bool true) ∧ Below w.heap.size w w' := by
  have P0 := Lib.hid (Box.made w 35 (Im.cells g (.slice A n c) r))
  have K0 := Lib.hid (one_below w (.cells (Im.cells g (.slice A n c) r) 35))
  have hr0 := (hr.below K0.out).wider K0.out.size
  have ct := fun X => Lib.hid (told7_any X)
  by_cases hok : Im.Ok g r
  rotate_left
  · have cp := Lib.hid (put_no g r A n c _ hok hty hn hn63 hr0)
    clear hr hr0 hty hok hn
    go_enter Try.func4, Try.ntmps4
    go_wp2_with (first | ((with_reducible refine im_load_state rfl rfl ?_); apply LoadIm.mk rfl; (focus (with_reducible exact P0.out)); dsimp only) | (go_at_call 14; ((with_reducible refine (cp.out).mono ?_); rintro r' w1 ⟨rfl, hb⟩; have K1 := Lib.hid (K0.out.trans (hb.mono K0.out.size)); clear hb)) | (go_at_call 13; ((with_reducible refine ((ct _).out).mono ?_); rintro r' w2 ⟨rfl, hb⟩; have K2 := Lib.hid (K1.out.trans (hb.mono K1.out.size)); clear hb)))
    go_ret
    exact ⟨rfl, K2.out⟩
  have hd := hty.2.1
  obtain ⟨z0, zr, hz⟩ : ∃ z0 zr, Im.zero = Im.cells z0 (.slice none 0 0) zr := ⟨Im.G0, Im.R0, rfl⟩
  have cp := Lib.hid (put_made g r A n c _ hok hd hn hr0)
  have cg0 := fun A' c' X hc hL => Lib.hid (imget_yes g r hok hd A' (Im.put g r).length c' X rfl hc hL)
  have cg1 := fun A' c' X hc hL => Lib.hid (imget_no z0 zr hz (Im.put g r ++ [cb]) (Im.get_app hok hd (by simp)) A' ((Im.put g r).length + 1) c' X (by simp) hc ((Im.put_bytes g r).app fun x hx => by obtain rfl := List.mem_singleton.1 hx; exact hcb) hL)
  have cg2 := fun k (hk : k < (Im.put g r).length) A' c' X hc hL => Lib.hid (imget_no z0 zr hz ((Im.put g r).take k) (Im.get_cut hok hd hk) A' k c' X (by rw [List.length_take]; omega) hc ((Im.put_bytes g r).take k) hL)
  have hle := Im.put_le g r hok.1.2.2.1
  have hoth := fun t y yr (hB : Im.IsBytes t) h => Im.other hok hd (t := t) (y := y) (yr := yr) hB h
  have hyes := Im.get_put hok hd
  have hby := Im.put_bytes g r
  have h4 : 4 ≤ (Im.put g r).length := by
    have e : (Im.put g r).length = 4 + (Im.put g r).length - 4 := by
      unfold Im.put; rw [List.length_append, Im.bytesOf_len]; omega
    unfold Im.put at *; rw [List.length_append, Im.bytesOf_len]; omega
  have H0 := Lib.hid hr
  have HZ := Lib.hid hz
  have HNN := Lib.hid hn
  have N63 := Lib.hid hn63
  generalize Im.put g r = bs at *
  obtain ⟨m, hm⟩ : ∃ m, m = bs.length := ⟨_, rfl⟩
  rw [← hm] at cp cg0 cg1 cg2 hle h4
  have HM := Lib.hid hm
  have HOTH := Lib.hid hoth
  have HYES := Lib.hid hyes
  have HBY := Lib.hid hby
  have HD := Lib.hid hd
  clear hr hr0 hty hok hn63 hm hoth hyes hby hz hn hd
  go_enter Try.func4, Try.ntmps4
  go_upto_region 5 with (first | ((with_reducible refine im_load_state rfl rfl ?_); apply LoadIm.mk rfl; (focus (with_reducible exact P0.out)); dsimp only) | (with_reducible refine alloc_state rfl rfl ?_) | (with_reducible refine state_store_new rfl rfl rfl rfl Im.zero_size rfl ?_) | (go_at_call 14; ((with_reducible refine (cp.out).mono ?_); rintro r' w1 ⟨A1, c1, rfl, hc1, hL1, hb⟩; have P1 := Lib.hid (P0.out.below hb P0.out.lt); have K1 := Lib.hid (K0.out.trans (hb.mono K0.out.size)); have L1 := Lib.hid hL1; have C1 := Lib.hid hc1; have g0 := cg0 A1 c1 _ hc1 hL1; clear hb cp cg0 hc1 hL1)) | (go_at_call 17; ((with_reducible refine (g0.out).mono ?_); rintro r' w2 ⟨g1, r1, S1, hlk, hgt, rfl, hE, hb⟩; have P2 := Lib.hid ((P1.out.below hb P1.out.lt).alloc (.cells (Im.cells g1 (.slice (some ⟨S1, 0, none⟩) g1.shots.length g1.shots.length) r1) 35)); have K2 := Lib.hid ((K1.out.trans (hb.mono K1.out.size)).alloc (Nat.le_trans K1.out.size hb.size) (.cells (Im.cells g1 (.slice (some ⟨S1, 0, none⟩) g1.shots.length g1.shots.length) r1) 35)); have G2 := Lib.hid (Box.made w2 35 (Im.cells g1 (.slice (some ⟨S1, 0, none⟩) g1.shots.length g1.shots.length) r1)); have E2 := Lib.hid (hE.alloc (.cells (Im.cells g1 (.slice (some ⟨S1, 0, none⟩) g1.shots.length g1.shots.length) r1) 35)); have L2 := Lib.hid (((L1.out.below hb).wider hb.size).below (one_below w2 (.cells (Im.cells g1 (.slice (some ⟨S1, 0, none⟩) g1.shots.length g1.shots.length) r1) 35))); have l2 := Nat.lt_of_lt_of_le P1.out.lt hb.size; have s2 := hE.lt; have HLK := Lib.hid hlk; have F1 := Lib.hid (show g1.shots.length ≤ maxLen by (have e4 := hlk.1.2.2.2); rw [← e4, ← HNN.out]; exact N63.out); clear hb g0 hE hgt hlk)))
  generalize hV2 : w2.alloc (.cells (Im.cells g1 (.slice (some ⟨S1, 0, none⟩) g1.shots.length g1.shots.length) r1) 35) = V2 at *
  have VS := Lib.hid (show V2.heap.size = w2.heap.size + 1 by rw [← hV2]; simp)
  obtain ⟨i0, hi0, hz0, hz1, hz2⟩ := u8_parts
  have hI := Lib.hid hi0
  have hZ := Lib.hid hz0
  have hS := Lib.hid hz1
  have hY := Lib.hid hz2
  have own0 := Lib.hid (World.ownsRow_lit (base := V2.heap.size) (e := 5) (size := 1) V2 #[] 0 (Nat.le_refl _) (Nat.zero_le _) rfl)
  have M2 := Lib.hid ((L2.out.below ((one_below V2 (.cells #[] 5)).mono (by have := VS.out; omega))).wider (show w2.heap.size ≤ (V2.alloc (.cells #[] 5)).heap.size by have := VS.out; simp; omega))
  have csm := fun X hX1 hX2 => Lib.hid (show Calls Try.prog 19 #[.agg (Im.cells g (.slice A n c) r), .agg (Im.cells g1 (.slice (some ⟨S1, 0, none⟩) g1.shots.length g1.shots.length) r1)] X fun r' w' => r' = .returned (.bool true) ∧ Below X.heap.size X w' from
    (refsamest_any g g1 r r1 A (some ⟨S1, 0, none⟩) n g1.shots.length c g1.shots.length X HNN.out rfl hX1 hX2 N63.out F1.out).mono fun r' w' ⟨⟨v, h1, h2⟩, h3⟩ => by
      obtain rfl : v = true := h2.2 HLK.out
      exact ⟨h1, h3⟩)
  have hwn : IntKind.i64.wrap ((m : Int) + 1) = m + 1 := by rw [IntKind.wrap_i64]; omega
  have hwm : IntKind.u64.wrap ((m : Int) + 1) = m + 1 := by rw [IntKind.wrap_u64]; omega
  have u0 : 0 ≤ IntKind.u64.wrap at0 := by rw [IntKind.wrap_u64]; omega
  have u1 : IntKind.u64.wrap at0 ≤ 18446744073709551615 := by rw [IntKind.wrap_u64]; omega
  clear hi0 hz0 hz1 hz2 hV2
  go_upto_region 6 with fail
  obtain ⟨kk, hkk, hkm⟩ : ∃ kk : Nat, RowKit.wrap64 (IntKind.u64.wrap at0 % ((m : Int) + 1)) = kk ∧ kk < m + 1 := by
    have h0 : 0 ≤ IntKind.u64.wrap at0 % ((m : Int) + 1) := Int.emod_nonneg _ (by omega)
    have h1 : IntKind.u64.wrap at0 % ((m : Int) + 1) < m + 1 := Int.emod_lt_of_pos _ (by omega)
    refine ⟨(IntKind.u64.wrap at0 % ((m : Int) + 1)).toNat, ?_, by omega⟩
    rw [IntWalk.wrap64_in _ (by omega)]; omega
  rw [hkk]
  clear hkk hwn hwm u0 u1
  go_upto_region 7 with (first | ((with_reducible refine append_gate (x := .tmp 43) (y := .tmp 44) (t := 36) (e := 5) (size := 1) (bytes := 1) rfl rfl Try.underlying36 hI.out hZ.out hS.out hY.out rfl (by decide) ?_); refine Appends.mk (base := V2.heap.size) (n := 0) (xs := []) rfl own0.out M2.out (Im.u8s_one _) (by unfold maxLen; omega) (by have := VS.out; omega) (by simp) ?_; intro A3 c3 w3 own3 hg3; simp only [Nat.zero_add, List.nil_append] at own3 ⊢; have OW3 := Lib.hid own3; have P3 := Lib.hid ((P2.out.alloc _).over hg3 (B := V2.heap.size) (own_ge own0.out) (by have := VS.out; omega)); have G3 := Lib.hid ((G2.out.alloc _).over hg3 (B := V2.heap.size) (own_ge own0.out) (by have := VS.out; omega)); have E3 := Lib.hid ((E2.out.alloc _).over hg3 (B := V2.heap.size) (own_ge own0.out) (by have := VS.out; omega)); have L3 := Lib.hid ((L2.out.below ((one_below V2 (.cells #[] 5)).mono (by have := VS.out; omega))).grown hg3 (fun r hr => Nat.le_trans (by have := VS.out; omega) (own_ge own0.out r hr)) (by have := VS.out; simp; omega)); have K3 := Lib.hid (below_grown (K2.out.alloc K2.out.size _) hg3 (fun r hr => Nat.le_trans (by have := VS.out; omega) (own_ge own0.out r hr)) (Nat.le_refl _)); have sz3 : V2.heap.size ≤ w3.heap.size := Nat.le_trans (by simp) hg3.size; clear own3 hg3) | ((with_reducible refine append_gate (x := .tmp 45) (y := .tmp 47) (t := 36) (e := 5) (size := 1) (bytes := 1) rfl rfl Try.underlying36 hI.out hZ.out hS.out hY.out rfl (by decide) ?_); refine Appends.mk (base := V2.heap.size) (n := m) (xs := Im.u8s bs) (m := 1) (news := Im.u8s [cb]) rfl (OW3.out.alloc _) (lies_byte w3 cb) (Im.u8s_one _) (by unfold maxLen; omega) (by have := VS.out; omega) (by have := VS.out; simp; omega) ?_; intro A4 c4 w4 own4 hg4; rw [← Im.u8s_append] at own4; have P4 := Lib.hid ((P3.out.alloc _).over hg4 (B := V2.heap.size) (own_ge OW3.out) (by have := VS.out; omega)); have G4 := Lib.hid ((G3.out.alloc _).over hg4 (B := V2.heap.size) (own_ge OW3.out) (by have := VS.out; omega)); have E4 := Lib.hid ((E3.out.alloc _).over hg4 (B := V2.heap.size) (own_ge OW3.out) (by have := VS.out; omega)); have L4 := Lib.hid ((L3.out.below ((one_below w3 _).mono (by have := VS.out; omega))).grown hg4 (fun r hr => Nat.le_trans (by have := VS.out; omega) (own_ge OW3.out r hr)) (by have := VS.out; simp; omega)); have K4 := Lib.hid (below_grown (K3.out.alloc K3.out.size _) hg4 (fun r hr => Nat.le_trans (by have := VS.out; omega) (own_ge OW3.out r hr)) (Nat.le_refl _)); have sz4 : w3.heap.size ≤ w4.heap.size := Nat.le_trans (by simp) hg4.size; have g4 := cg1 A4 c4 w4 (own_cap own4) (Lies.owned own4); clear own4 hg4) | (with_reducible refine alloc_state rfl rfl ?_) | (with_reducible refine state_store_new rfl rfl rfl rfl Im.zero_size rfl ?_) | (go_at_call 17; ((with_reducible refine (g4.out).mono ?_); rintro r' w5 ⟨rfl, hb⟩; have P5 := Lib.hid ((P4.out.below hb P4.out.lt).alloc (.cells (Im.cells z0 (.slice none 0 0) zr) 35)); have K5 := Lib.hid ((K4.out.trans (hb.mono K4.out.size)).alloc (Nat.le_trans K4.out.size hb.size) (.cells (Im.cells z0 (.slice none 0 0) zr) 35)); have G5 := Lib.hid ((G4.out.below hb G4.out.lt).alloc (.cells (Im.cells z0 (.slice none 0 0) zr) 35)); have E5 := Lib.hid ((E4.out.below hb E4.out.lt).alloc (.cells (Im.cells z0 (.slice none 0 0) zr) 35)); have L5 := Lib.hid (L4.out.below ((hb.mono (by have := VS.out; omega)).trans ((one_below w5 (.cells (Im.cells z0 (.slice none 0 0) zr) 35)).mono (Nat.le_trans (by have := VS.out; omega) hb.size)))); have sz5 := hb.size; clear hb g4)))
  have c5 := csm _ ((H0.out.below K5.out).wider K5.out.size) (lies_boxed E5.out (Gm.shotCells_len _))
  go_upto_region 9 with (first | ((with_reducible refine im_load_state_g ?_ rfl ?_); (focus first | rfl | kernel_rfl | simp [Region.wanted, yielded]); apply LoadIm.mk rfl; (focus first | (with_reducible exact G5.out) | (with_reducible exact P5.out)); dsimp only) | (go_at_call 19; ((with_reducible refine (c5.out).mono ?_); rintro r' w6 ⟨rfl, hb⟩; have P6 := Lib.hid (P5.out.below hb P5.out.lt); have K6 := Lib.hid (K5.out.trans (hb.mono K5.out.size)); have sz6 := hb.size; have L6 := Lib.hid (L5.out.below (hb.mono (by have := VS.out; simp at sz5 ⊢; omega))); clear hb c5)))
  by_cases hkq : kk = m
  · subst hkq
    clear hkm
    go_wp2_with (go_at_call 13; ((with_reducible refine ((ct _).out).mono ?_); rintro r' w7 ⟨rfl, hb⟩; have K7 := Lib.hid (K6.out.trans (hb.mono K6.out.size)); clear hb))
    go_ret
    exact ⟨rfl, K7.out⟩
  have hkm2 : kk < m := by omega
  have hkne : ((kk : Int) == (m : Int)) = false := by simp; omega
  have hsl := fun W => run_slice_to (P := Try.prog) (t := 36) A1 m c1 kk Try.underlying36 u8_size (by have := C1.out; omega) W
  have g6 := cg2 kk hkm2 A1 c1 w6 (by have := C1.out; omega) ((L6.out.take1 kk (by omega)).wider (by have := VS.out; simp at sz6 sz5 ⊢; omega))
  have hkl : kk < bs.length := by have := HM.out; omega
  have hbk := HBY.out bs[kk] (List.getElem_mem hkl)
  have hset := fun v => By.set_same_iff hkl v
  have hat' : bs[kk]? = some bs[kk] := List.getElem?_eq_getElem hkl
  generalize bs[kk] = xk at hbk hset hat'
  obtain ⟨v, hxor, hv, hvc⟩ := By.xor_turn hbk hcb
  have HVC := Lib.hid ((hset v).trans hvc)
  have HAT := Lib.hid hat'
  have HTB := Lib.hid (By.set_bytes HBY.out kk hv)
  have HTL := Lib.hid (show (bs.set kk v).length = m by rw [List.length_set]; exact HM.out.symm)
  clear hvc hset hat' hbk hkq hkm
  go_upto_region 12 with (first | (with_reducible refine alloc_state rfl rfl ?_) | (with_reducible refine state_store_new rfl rfl rfl rfl Im.zero_size rfl ?_) | (go_at_call 17; ((with_reducible refine (g6.out).mono ?_); rintro r' w7 ⟨rfl, hb⟩; have P7 := Lib.hid ((P6.out.below hb P6.out.lt).alloc (.cells (Im.cells z0 (.slice none 0 0) zr) 35)); have K7 := Lib.hid ((K6.out.trans (hb.mono K6.out.size)).alloc (Nat.le_trans K6.out.size hb.size) (.cells (Im.cells z0 (.slice none 0 0) zr) 35)); have sz7 := hb.size; have L7 := Lib.hid ((L6.out.below (hb.mono (by have := VS.out; simp at sz6 sz5 ⊢; omega))).below ((one_below w7 (.cells (Im.cells z0 (.slice none 0 0) zr) 35)).mono (by have := VS.out; simp at sz6 sz5 ⊢; omega))); clear hb g6)))
  generalize hV7 : w7.alloc (.cells (Im.cells z0 (.slice none 0 0) zr) 35) = V7 at *
  have VS7 := Lib.hid (show V7.heap.size = w7.heap.size + 1 by rw [← hV7]; simp)
  have own7 := Lib.hid (World.ownsRow_lit (base := V7.heap.size) (e := 5) (size := 1) V7 #[] 0 (Nat.le_refl _) (Nat.zero_le _) rfl)
  have BIG := Lib.hid (show w2.heap.size ≤ V7.heap.size by have := VS.out; have := VS7.out; simp at sz6; omega)
  have M7 := Lib.hid ((L7.out.below ((one_below V7 (.cells #[] 5)).mono BIG.out)).wider (show w2.heap.size ≤ (V7.alloc (.cells #[] 5)).heap.size by have := BIG.out; simp; omega))
  clear hV7
  go_upto_region 14 with ((with_reducible refine append_gate (x := .tmp 76) (y := .tmp 77) (t := 36) (e := 5) (size := 1) (bytes := 1) rfl rfl Try.underlying36 hI.out hZ.out hS.out hY.out rfl (by decide) ?_); refine Appends.mk (base := V7.heap.size) (n := 0) (xs := []) rfl own7.out M7.out (Im.u8s_one _) (by unfold maxLen; omega) (by omega) (by simp) ?_; intro A8 c8 w8 own8 hg8; simp only [Nat.zero_add, List.nil_append] at own8 ⊢; have P8 := Lib.hid ((P7.out.alloc _).over hg8 (B := V7.heap.size) (own_ge own7.out) (by have := BIG.out; omega)); have K8 := Lib.hid (below_grown (K7.out.alloc K7.out.size _) hg8 (fun r hr => Nat.le_trans (by have := BIG.out; omega) (own_ge own7.out r hr)) (Nat.le_refl _)); obtain ⟨gg, cur, hA8, hgb, hmc, hB8, hcur⟩ := own_box own8 (by omega); subst hA8; have T8 := Lib.hid hB8; have HCUR := Lib.hid hcur; have t8 := (hB8.cell kk).trans (hcur kk _ HAT.out); have f8 := hB8.free kk; clear own8 hg8 hB8 hcur)
  have hgw : w.heap.size < gg := by have := BIG.out; omega
  have P9 := Lib.hid (P8.out.far (p := ⟨gg, kk, none⟩) (show w.heap.size ≠ gg by omega) (.int .u8 v))
  have K9 := Lib.hid (K8.out.setCell (p := ⟨gg, kk, none⟩) (show w.heap.size ≤ gg by omega) (.int .u8 v))
  have T9 := Lib.hid (T8.out.put kk (.int .u8 v))
  have HC9 := Lib.hid (show ∀ (j : Nat) (x : Int), (bs.set kk v)[j]? = some x → (cur.setIfInBounds kk (.int .u8 v))[j]? = some (Value.int .u8 x) from fun j x hj => by
    by_cases e : kk = j
    · subst e
      have hlt : kk < cur.size := (Array.getElem?_eq_some_iff.1 (HCUR.out kk _ HAT.out)).1
      rw [List.getElem?_set_self (by have := HM.out; omega)] at hj
      injection hj with hj
      subst hj
      rw [Array.getElem?_setIfInBounds_self, if_pos hlt]
    · rw [List.getElem?_set_ne e] at hj
      rw [Array.getElem?_setIfInBounds_ne e]
      exact HCUR.out j x hj)
  have g9 := Lib.hid (imget_say z0 zr HZ.out (bs.set kk v) (some ⟨gg, 0, none⟩) m c8 _ HTL.out.symm hmc HTB.out (T9.out.lies HTL.out HC9.out))
  clear t8 f8 P8 K8 T8 HCUR
  generalize hW9 : w8.setCell ⟨gg, kk, none⟩ (.int .u8 v) = W9 at *
  clear hW9
  go_upto_region 15 with (first | (with_reducible refine alloc_state rfl rfl ?_) | (with_reducible refine state_store_new rfl rfl rfl rfl Im.zero_size rfl ?_) | (go_at_call 17; ((with_reducible refine (g9.out).mono ?_); rintro r' w10 (⟨y, yr, S2, hgt, rfl, hE, hb⟩ | ⟨hgt, rfl, hb⟩); (all_goals first | (have G10 := Lib.hid (Box.made w10 35 (Im.cells y (.slice (some ⟨S2, 0, none⟩) y.shots.length y.shots.length) yr)); have E10 := Lib.hid (hE.alloc (.cells (Im.cells y (.slice (some ⟨S2, 0, none⟩) y.shots.length y.shots.length) yr) 35)); have P10 := Lib.hid ((P9.out.below hb P9.out.lt).alloc (.cells (Im.cells y (.slice (some ⟨S2, 0, none⟩) y.shots.length y.shots.length) yr) 35)); have T10 := Lib.hid ((T9.out.below hb T9.out.lt).alloc (.cells (Im.cells y (.slice (some ⟨S2, 0, none⟩) y.shots.length y.shots.length) yr) 35)); have K10 := Lib.hid ((K9.out.trans (hb.mono K9.out.size)).alloc (Nat.le_trans K9.out.size hb.size) (.cells (Im.cells y (.slice (some ⟨S2, 0, none⟩) y.shots.length y.shots.length) yr) 35)); have HG := Lib.hid hgt; clear hb hE hgt g9) | (have K10 := Lib.hid ((K9.out.trans (hb.mono K9.out.size)).alloc (Nat.le_trans K9.out.size hb.size) (.cells (Im.cells z0 (.slice none 0 0) zr) 35)); have HG := Lib.hid hgt; clear hb hgt g9)))))
  · obtain ⟨yok, yty, yput⟩ := Im.get_some HTB.out HG.out
    have yf := yok.1.2.2.1
    have hlk := (HOTH.out (bs.set kk v) y yr HTB.out HG.out).trans HVC.out
    have cp2 := fun X hX => Lib.hid (put_made y yr (some ⟨S2, 0, none⟩) y.shots.length y.shots.length X yok yty.2.1 rfl hX)
    rw [yput, HTL.out] at cp2
    have csm2 := fun X h1 h2 => Lib.hid (refsamest_any g y r yr A (some ⟨S2, 0, none⟩) n y.shots.length c y.shots.length X HNN.out rfl h1 h2 N63.out (by unfold maxLen; omega))
    have hcv := Lib.hid (fun A' c' X B hL => conv_bytes (bs.set kk v) m A' c' X B HTL.out hL)
    have c10 := cp2 _ (lies_boxed E10.out (Gm.shotCells_len _))
    have HLK2 := Lib.hid hlk
    clear cp2 yok yty yput hlk cg1 cg2 csm own7 M7 P9 K9 T9 P7 K7 L7 hxor
    go_upto_region 20 with (first | ((with_reducible refine im_load_state rfl rfl ?_); apply LoadIm.mk rfl; (focus (with_reducible exact G10.out)); dsimp only) | (go_at_call 14; ((with_reducible refine (c10.out).mono ?_); rintro r' w11 ⟨A11, c11, rfl, _, hL11, hb⟩; have L11 := Lib.hid hL11; have G11 := Lib.hid (G10.out.below hb G10.out.lt); have P11 := Lib.hid (P10.out.below hb P10.out.lt); have T11 := Lib.hid (T10.out.below hb T10.out.lt); have E11 := Lib.hid (E10.out.below hb E10.out.lt); have K11 := Lib.hid (K10.out.trans (hb.mono K10.out.size)); clear hb hL11 c10)))
    by_cases hzc : cb = 0
    · have hlb := Lib.hid (HLK2.out.2 hzc)
      subst hzc
      go_wp2_with (first | (go_at_call 13; ((with_reducible refine ((ct _).out).mono ?_); rintro r' w12 ⟨rfl, hb⟩; have v1 := hcv.out A11 c11 w12 _ (L11.out.below hb); have T12 := T11.out.below hb T11.out.lt; have v2 := hcv.out (some ⟨gg, 0, none⟩) c8 w12 _ (T12.lies HTL.out HC9.out); have G12 := Lib.hid (G11.out.below hb G11.out.lt); have P12 := Lib.hid (P11.out.below hb P11.out.lt); have E12 := Lib.hid (E11.out.below hb E11.out.lt); have K12 := Lib.hid (K11.out.trans (hb.mono K11.out.size)); have s12 := csm2 w12 ((H0.out.below K12.out).wider K12.out.size) (lies_boxed E12.out (Gm.shotCells_len _)); clear hb T12)) | ((with_reducible refine im_load_state_g ?_ rfl ?_); (focus first | rfl | kernel_rfl | simp [Region.wanted, yielded]); apply LoadIm.mk rfl; (focus first | (with_reducible exact G12.out) | (with_reducible exact P12.out)); dsimp only) | (go_at_call 19; ((with_reducible refine (s12.out).mono ?_); rintro r' w13 ⟨⟨vv, rfl, hvv⟩, hb⟩; obtain rfl : vv = true := hvv.2 hlb.out; have K13 := Lib.hid (K12.out.trans (hb.mono K12.out.size)); clear hb hvv)))
      go_ret
      exact ⟨rfl, K13.out⟩
    · have hlb := Lib.hid (show ¬ Im.Like g r y yr from fun h => hzc (HLK2.out.1 h))
      have hcz : (cb == 0) = false := by simpa using hzc
      clear hzc
      go_wp2_with (first | (go_at_call 13; ((with_reducible refine ((ct _).out).mono ?_); rintro r' w12 ⟨rfl, hb⟩; have v1 := hcv.out A11 c11 w12 _ (L11.out.below hb); have T12 := T11.out.below hb T11.out.lt; have v2 := hcv.out (some ⟨gg, 0, none⟩) c8 w12 _ (T12.lies HTL.out HC9.out); have G12 := Lib.hid (G11.out.below hb G11.out.lt); have P12 := Lib.hid (P11.out.below hb P11.out.lt); have E12 := Lib.hid (E11.out.below hb E11.out.lt); have K12 := Lib.hid (K11.out.trans (hb.mono K11.out.size)); have s12 := csm2 w12 ((H0.out.below K12.out).wider K12.out.size) (lies_boxed E12.out (Gm.shotCells_len _)); clear hb T12)) | ((with_reducible refine im_load_state_g ?_ rfl ?_); (focus first | rfl | kernel_rfl | simp [Region.wanted, yielded]); apply LoadIm.mk rfl; (focus first | (with_reducible exact G12.out) | (with_reducible exact P12.out)); dsimp only) | (go_at_call 19; ((with_reducible refine (s12.out).mono ?_); rintro r' w13 ⟨⟨vv, rfl, hvv⟩, hb⟩; obtain rfl : vv = false := (by cases vv <;> first | rfl | exact absurd (hvv.1 rfl) hlb.out); have K13 := Lib.hid (K12.out.trans (hb.mono K12.out.size)); clear hb hvv)))
      go_ret
      exact ⟨rfl, K13.out⟩
  · have hcne : (cb != 0) = true := by
      have hne : cb ≠ 0 := fun e => by
        obtain ⟨g', r', h1, _⟩ := HYES.out
        have := HG.out
        rw [HVC.out.2 e, h1] at this
        cases this
      simpa using hne
    go_wp2_with (go_at_call 13; ((with_reducible refine ((ct _).out).mono ?_); rintro r' w11 ⟨rfl, hb⟩; have K11 := Lib.hid (K10.out.trans (hb.mono K10.out.size)); clear hb))
    go_ret
    exact ⟨rfl, K11.out⟩
end Go.Proofs.Ytghomofakpjglaa
namespace Go.Proofs.Ytghomofakpjglaa
open Go.RowKit
set_option linter.unusedVariables false
set_option linter.unusedSimpArgs false

theorem ship_neq (s t : Gm.Ship) (w : World) : (binOp .neq 24 (.agg s.cells.toArray) (.agg t.cells.toArray)).run Try.prog w = .ok (.bool (!s.eqB t)) w := by
  simp only [binOp]
  simp [Op.equal, Op.maxDepth, ship_eq']

set_option maxRecDepth 100000 in
set_option maxHeartbeats 16000000 in
theorem refmay_any (g : Gm.G) (A : Option Addr) (n c : Nat) (w : World) (hty : Gm.ty g) (hn : n = g.shots.length) (hn63 : n ≤ maxLen) (hr : Lies w w.heap.size 6 A n (Gm.shotCells g.shots)) :
    Calls Try.prog 41 #[.agg (Gm.cells g (.slice A n c))] w fun e w' => (∃ v, e = .returned (.bool v) ∧ (v = true ↔ Gm.ok g)) ∧ Below w.heap.size w w' := by
  have hN : Hid (n = g.shots.length) := Lib.hid hn
  have n63 : (n : Int) ≤ 9223372036854775807 := by unfold maxLen at hn63; omega
  have hc : ∀ W : World, ∀ j, (W.alloc (.cells (Gm.cells g (.slice A n c)) 28)).cell? ⟨W.heap.size, j, none⟩ = (Gm.cells g (.slice A n c))[j]? := fun W j => (Box.made W _ _).cell j
  have h0 := Gm.cells_0 g (.slice A n c)
  have h58 := Gm.cells_58 g (.slice A n c)
  clear hn hn63
  by_cases hf : g.frame < 0
  · have d1 : decide (g.frame < 0) = true := decide_eq_true hf
    have hno := Lib.hid (show ¬ Gm.ok g from fun h => by have := h.1; omega)
    clear hr hf hty
    go_enter Try.func41, Try.ntmps41
    go_wp2
    go_ret
    exact ⟨by first | exact ⟨false, rfl, by simp; exact hno.out⟩ | exact .inl ⟨rfl, hno.out⟩, one_below _ _⟩
  have d1 : decide (g.frame < 0) = false := decide_eq_false hf
  by_cases hf2 : 1048576 < g.frame
  · have d2 : decide (1048576 < g.frame) = true := decide_eq_true hf2
    have hno := Lib.hid (show ¬ Gm.ok g from fun h => by have := h.2.1; omega)
    clear hr hf hf2 hty
    go_enter Try.func41, Try.ntmps41
    go_wp2
    go_ret
    exact ⟨by first | exact ⟨false, rfl, by simp; exact hno.out⟩ | exact .inl ⟨rfl, hno.out⟩, one_below _ _⟩
  have d2 : decide (1048576 < g.frame) = false := decide_eq_false hf2
  by_cases hf3 : 32 < (n : Int)
  · have d3 : decide (32 < (n : Int)) = true := decide_eq_true hf3
    have hno := Lib.hid (show ¬ Gm.ok g from fun h => by have := h.2.2.1; have := hN.out; omega)
    clear hr hf hf2 hf3 hty
    go_enter Try.func41, Try.ntmps41
    go_wp2
    go_ret
    exact ⟨by first | exact ⟨false, rfl, by simp; exact hno.out⟩ | exact .inl ⟨rfl, hno.out⟩, one_below _ _⟩
  have d3 : decide (32 < (n : Int)) = false := decide_eq_false hf3
  have HF := Lib.hid (show 0 ≤ g.frame ∧ g.frame ≤ 1048576 ∧ g.shots.length ≤ 32 from ⟨by omega, by omega, by have := hN.out; omega⟩)
  obtain ⟨_, _, hships, hshots⟩ := hty
  clear hf hf2 hf3
  go_enter Try.func41, Try.ntmps41
  go_wp2
  go_loopw [3] (fun i wr => ∃ k : Nat, k ≤ 8 ∧ i = .int .i64 k ∧ Box wr w.heap.size 28 (Gm.cells g (.slice A n c)) ∧ Below w.heap.size w wr ∧ ∀ j, j < k → Gm.okShip (g.ship j)) (fun i _ => 8 - (intOf i).toNat)
  case atStart => exact ⟨0, by omega, rfl, Box.made _ _ _, one_below _ _, fun j hj => absurd hj (Nat.not_lt_zero j)⟩
  case round =>
    obtain ⟨k, hk, rfl, hB, hb, hall⟩ := hrel
    have HALL := Lib.hid hall
    clear hall
    by_cases hlt : k < 8
    · have hcr := hB.cell
      have hlB := hB.lt
      have e0 := cells_at hcr hlt 0 (by omega)
      have e1 := cells_at hcr hlt 1 (by omega)
      have e2 := cells_at hcr hlt 2 (by omega)
      have e3 := cells_at hcr hlt 3 (by omega)
      have e4 := cells_at hcr hlt 4 (by omega)
      have e5 := cells_at hcr hlt 5 (by omega)
      have e6 := cells_at hcr hlt 6 (by omega)
      have ty := hships k hlt
      have HS := Lib.hid (show Gm.ok g → Gm.okShip (g.ship k) from fun h => h.2.2.2.1 k hlt)
      have HZ := Lib.hid (show Gm.okShip (g.ship k) → ∀ j, j < k + 1 → Gm.okShip (g.ship j) from fun h j hj => by
        by_cases e : j = k
        · rw [e]; exact h
        · exact HALL.out j (by omega))
      generalize g.ship k = s at e0 e1 e2 e3 e4 e5 e6 ty HS HZ
      obtain ⟨on, x, y, vx, vy, cool, score⟩ := s
      simp only [Gm.Ship.cells, List.getElem?_cons_zero, List.getElem?_cons_succ, Nat.add_zero] at e0 e1 e2 e3 e4 e5 e6
      obtain ⟨tx, ty, tvx, tvy, tc, ts⟩ := ty
      unfold Gm.i32 Gm.i64 at *
      dsimp only at tx ty tvx tvy tc ts
      have hk8 : (k : Int) < 8 := by omega
      have HB := Lib.hid hB
      have HBB := Lib.hid hb
      clear hc hcr hships hshots h0 h58 d1 d2 d3 hB hb
      cases on
      · by_cases hz : (⟨false, x, y, vx, vy, cool, score⟩ : Gm.Ship) = Gm.Ship.none
        · have ho := Lib.hid (HZ.out (by rw [hz]; refine ⟨.inr rfl, ?_, ?_, ?_, ?_, ?_, ?_, ?_, ?_⟩ <;> simp [Gm.Ship.none, Gm.inF, Gm.slow]))
          injection hz with z1 z2 z3 z4 z5 z6 z7
          subst z2 z3 z4 z5 z6 z7
          clear HS HZ tx ty tvx tvy tc ts
          go_wp2
          go_roundw
          case rel => exact ⟨k + 1, by omega, by go_num, HB.out.alloc _, HBB.out.alloc (Nat.le_of_lt hlB) _, ho.out⟩
          case measure => simp [intOf]; omega
        · have he := fun W => ship_neq ⟨false, x, y, vx, vy, cool, score⟩ Gm.Ship.none W
          rw [show (⟨false, x, y, vx, vy, cool, score⟩ : Gm.Ship).eqB Gm.Ship.none = false by
            cases hq : (⟨false, x, y, vx, vy, cool, score⟩ : Gm.Ship).eqB Gm.Ship.none
            · rfl
            · exact absurd (Gm.Ship.eqB_iff.1 hq) hz] at he
          simp only [Gm.Ship.cells, Gm.Ship.none, Bool.not_false] at he
          have hno := Lib.hid (show ¬ Gm.ok g from fun h => (HS.out h).1.elim (fun hh => absurd hh (by simp)) hz)
          clear HS HZ hz tx ty tvx tvy tc ts
          go_wp2
          go_ret
          exact ⟨by first | exact ⟨false, rfl, by simp; exact hno.out⟩ | exact .inl ⟨rfl, hno.out⟩, HBB.out.alloc (Nat.le_of_lt hlB) _⟩
      · skip
        have cx := fun X => Lib.hid (refin_any x tx X)
        have cy := fun X => Lib.hid (refin_any y ty X)
        have cvx := fun X => Lib.hid (refslow_any vx 524288 tvx (by omega) X)
        have cvy := fun X => Lib.hid (refslow_any vy 524288 tvy (by omega) X)
        obtain ⟨bx, hx⟩ : ∃ b, b = (decide (0 ≤ x) && decide (x < 16777216)) := ⟨_, rfl⟩
        obtain ⟨b_y, hy⟩ : ∃ b, b = (decide (0 ≤ y) && decide (y < 16777216)) := ⟨_, rfl⟩
        obtain ⟨bvx, hvx⟩ : ∃ b, b = (decide (-524288 ≤ vx) && decide (vx ≤ 524288)) := ⟨_, rfl⟩
        obtain ⟨bvy, hvy⟩ : ∃ b, b = (decide (-524288 ≤ vy) && decide (vy ≤ 524288)) := ⟨_, rfl⟩
        rw [← hx] at cx; rw [← hy] at cy; rw [← hvx] at cvx; rw [← hvy] at cvy
        have HX := Lib.hid (show bx = true ↔ Gm.inF x by rw [hx]; unfold Gm.inF; simp)
        have HY := Lib.hid (show b_y = true ↔ Gm.inF y by rw [hy]; unfold Gm.inF; simp)
        have HVX := Lib.hid (show bvx = true ↔ Gm.slow vx 524288 by rw [hvx]; unfold Gm.slow; simp)
        have HVY := Lib.hid (show bvy = true ↔ Gm.slow vy 524288 by rw [hvy]; unfold Gm.slow; simp)
        have HO := Lib.hid (show Gm.ok g → bx = true ∧ b_y = true ∧ bvx = true ∧ bvy = true ∧ 0 ≤ cool ∧ cool ≤ 10 ∧ 0 ≤ score ∧ score ≤ 1073741824 from fun h => by obtain ⟨_, h1, h2, h3, h4, h5, h6, h7, h8⟩ := HS.out h; exact ⟨HX.out.2 h1, HY.out.2 h2, HVX.out.2 h3, HVY.out.2 h4, h5, h6, h7, h8⟩)
        have HQ := Lib.hid (show (bx = true ∧ b_y = true ∧ bvx = true ∧ bvy = true ∧ 0 ≤ cool ∧ cool ≤ 10 ∧ 0 ≤ score ∧ score ≤ 1073741824) → ∀ j, j < k + 1 → Gm.okShip (g.ship j) from fun ⟨h1, h2, h3, h4, h5, h6, h7, h8⟩ => HZ.out ⟨.inl rfl, HX.out.1 h1, HY.out.1 h2, HVX.out.1 h3, HVY.out.1 h4, h5, h6, h7, h8⟩)
        clear hx hy hvx hvy HX HY HVX HVY HS HZ tx ty tvx tvy tc ts
        cases bx
        · have hno := Lib.hid (show ¬ Gm.ok g from fun h => by have := (HO.out h).1; simp at this)
          clear HO HQ
          go_wp2_with (first | (go_at_call 74; first | ((with_reducible refine ((cx _).out).mono ?_); rintro e v1 ⟨rfl, rfl⟩) | ((with_reducible refine ((cy _).out).mono ?_); rintro e v1 ⟨rfl, rfl⟩)) | (go_at_call 75; first | ((with_reducible refine ((cvx _).out).mono ?_); rintro e v1 ⟨rfl, rfl⟩) | ((with_reducible refine ((cvy _).out).mono ?_); rintro e v1 ⟨rfl, rfl⟩)))
          go_ret
          exact ⟨by first | exact ⟨false, rfl, by simp; exact hno.out⟩ | exact .inl ⟨rfl, hno.out⟩, HBB.out.alloc (Nat.le_of_lt hlB) _⟩
        cases b_y
        · have hno := Lib.hid (show ¬ Gm.ok g from fun h => by have := (HO.out h).2.1; simp at this)
          clear HO HQ
          go_wp2_with (first | (go_at_call 74; first | ((with_reducible refine ((cx _).out).mono ?_); rintro e v1 ⟨rfl, rfl⟩) | ((with_reducible refine ((cy _).out).mono ?_); rintro e v1 ⟨rfl, rfl⟩)) | (go_at_call 75; first | ((with_reducible refine ((cvx _).out).mono ?_); rintro e v1 ⟨rfl, rfl⟩) | ((with_reducible refine ((cvy _).out).mono ?_); rintro e v1 ⟨rfl, rfl⟩)))
          go_ret
          exact ⟨by first | exact ⟨false, rfl, by simp; exact hno.out⟩ | exact .inl ⟨rfl, hno.out⟩, HBB.out.alloc (Nat.le_of_lt hlB) _⟩
        cases bvx
        · have hno := Lib.hid (show ¬ Gm.ok g from fun h => by have := (HO.out h).2.2.1; simp at this)
          clear HO HQ
          go_wp2_with (first | (go_at_call 74; first | ((with_reducible refine ((cx _).out).mono ?_); rintro e v1 ⟨rfl, rfl⟩) | ((with_reducible refine ((cy _).out).mono ?_); rintro e v1 ⟨rfl, rfl⟩)) | (go_at_call 75; first | ((with_reducible refine ((cvx _).out).mono ?_); rintro e v1 ⟨rfl, rfl⟩) | ((with_reducible refine ((cvy _).out).mono ?_); rintro e v1 ⟨rfl, rfl⟩)))
          go_ret
          exact ⟨by first | exact ⟨false, rfl, by simp; exact hno.out⟩ | exact .inl ⟨rfl, hno.out⟩, HBB.out.alloc (Nat.le_of_lt hlB) _⟩
        cases bvy
        · have hno := Lib.hid (show ¬ Gm.ok g from fun h => by have := (HO.out h).2.2.2.1; simp at this)
          clear HO HQ
          go_wp2_with (first | (go_at_call 74; first | ((with_reducible refine ((cx _).out).mono ?_); rintro e v1 ⟨rfl, rfl⟩) | ((with_reducible refine ((cy _).out).mono ?_); rintro e v1 ⟨rfl, rfl⟩)) | (go_at_call 75; first | ((with_reducible refine ((cvx _).out).mono ?_); rintro e v1 ⟨rfl, rfl⟩) | ((with_reducible refine ((cvy _).out).mono ?_); rintro e v1 ⟨rfl, rfl⟩)))
          go_ret
          exact ⟨by first | exact ⟨false, rfl, by simp; exact hno.out⟩ | exact .inl ⟨rfl, hno.out⟩, HBB.out.alloc (Nat.le_of_lt hlB) _⟩
        by_cases q0 : cool < 0
        · have f0 : decide (cool < 0) = true := decide_eq_true q0
          have hno := Lib.hid (show ¬ Gm.ok g from fun h => by have := (HO.out h).2.2.2.2.1; omega)
          clear HO HQ q0
          go_wp2_with (first | (go_at_call 74; first | ((with_reducible refine ((cx _).out).mono ?_); rintro e v1 ⟨rfl, rfl⟩) | ((with_reducible refine ((cy _).out).mono ?_); rintro e v1 ⟨rfl, rfl⟩)) | (go_at_call 75; first | ((with_reducible refine ((cvx _).out).mono ?_); rintro e v1 ⟨rfl, rfl⟩) | ((with_reducible refine ((cvy _).out).mono ?_); rintro e v1 ⟨rfl, rfl⟩)))
          go_ret
          exact ⟨by first | exact ⟨false, rfl, by simp; exact hno.out⟩ | exact .inl ⟨rfl, hno.out⟩, HBB.out.alloc (Nat.le_of_lt hlB) _⟩
        have f0 : decide (cool < 0) = false := decide_eq_false q0
        by_cases q1 : 10 < cool
        · have f1 : decide (10 < cool) = true := decide_eq_true q1
          have hno := Lib.hid (show ¬ Gm.ok g from fun h => by have := (HO.out h).2.2.2.2.2.1; omega)
          clear HO HQ q0 q1
          go_wp2_with (first | (go_at_call 74; first | ((with_reducible refine ((cx _).out).mono ?_); rintro e v1 ⟨rfl, rfl⟩) | ((with_reducible refine ((cy _).out).mono ?_); rintro e v1 ⟨rfl, rfl⟩)) | (go_at_call 75; first | ((with_reducible refine ((cvx _).out).mono ?_); rintro e v1 ⟨rfl, rfl⟩) | ((with_reducible refine ((cvy _).out).mono ?_); rintro e v1 ⟨rfl, rfl⟩)))
          go_ret
          exact ⟨by first | exact ⟨false, rfl, by simp; exact hno.out⟩ | exact .inl ⟨rfl, hno.out⟩, HBB.out.alloc (Nat.le_of_lt hlB) _⟩
        have f1 : decide (10 < cool) = false := decide_eq_false q1
        by_cases q2 : score < 0
        · have f2 : decide (score < 0) = true := decide_eq_true q2
          have hno := Lib.hid (show ¬ Gm.ok g from fun h => by have := (HO.out h).2.2.2.2.2.2.1; omega)
          clear HO HQ q0 q1 q2
          go_wp2_with (first | (go_at_call 74; first | ((with_reducible refine ((cx _).out).mono ?_); rintro e v1 ⟨rfl, rfl⟩) | ((with_reducible refine ((cy _).out).mono ?_); rintro e v1 ⟨rfl, rfl⟩)) | (go_at_call 75; first | ((with_reducible refine ((cvx _).out).mono ?_); rintro e v1 ⟨rfl, rfl⟩) | ((with_reducible refine ((cvy _).out).mono ?_); rintro e v1 ⟨rfl, rfl⟩)))
          go_ret
          exact ⟨by first | exact ⟨false, rfl, by simp; exact hno.out⟩ | exact .inl ⟨rfl, hno.out⟩, HBB.out.alloc (Nat.le_of_lt hlB) _⟩
        have f2 : decide (score < 0) = false := decide_eq_false q2
        by_cases q3 : 1073741824 < score
        · have f3 : decide (1073741824 < score) = true := decide_eq_true q3
          have hno := Lib.hid (show ¬ Gm.ok g from fun h => by have := (HO.out h).2.2.2.2.2.2.2; omega)
          clear HO HQ q0 q1 q2 q3
          go_wp2_with (first | (go_at_call 74; first | ((with_reducible refine ((cx _).out).mono ?_); rintro e v1 ⟨rfl, rfl⟩) | ((with_reducible refine ((cy _).out).mono ?_); rintro e v1 ⟨rfl, rfl⟩)) | (go_at_call 75; first | ((with_reducible refine ((cvx _).out).mono ?_); rintro e v1 ⟨rfl, rfl⟩) | ((with_reducible refine ((cvy _).out).mono ?_); rintro e v1 ⟨rfl, rfl⟩)))
          go_ret
          exact ⟨by first | exact ⟨false, rfl, by simp; exact hno.out⟩ | exact .inl ⟨rfl, hno.out⟩, HBB.out.alloc (Nat.le_of_lt hlB) _⟩
        have f3 : decide (1073741824 < score) = false := decide_eq_false q3
        have ho := Lib.hid (HQ.out ⟨rfl, rfl, rfl, rfl, by omega, by omega, by omega, by omega⟩)
        clear HO HQ q0 q1 q2 q3
        go_wp2_with (first | (go_at_call 74; first | ((with_reducible refine ((cx _).out).mono ?_); rintro e v1 ⟨rfl, rfl⟩) | ((with_reducible refine ((cy _).out).mono ?_); rintro e v1 ⟨rfl, rfl⟩)) | (go_at_call 75; first | ((with_reducible refine ((cvx _).out).mono ?_); rintro e v1 ⟨rfl, rfl⟩) | ((with_reducible refine ((cvy _).out).mono ?_); rintro e v1 ⟨rfl, rfl⟩)))
        go_roundw
        case rel => exact ⟨k + 1, by omega, by go_num, HB.out.alloc _, HBB.out.alloc (Nat.le_of_lt hlB) _, ho.out⟩
        case measure => simp [intOf]; omega
    · have hk8 : ¬ (k : Int) < 8 := by omega
      have HA8 := Lib.hid (show ∀ j, j < 8 → Gm.okShip (g.ship j) from fun j hj => HALL.out j (by omega))
      have hcr := hB.cell
      have hlB := hB.lt
      clear hc hships h0 d1 d2 d3 HALL
      go_wp2
      go_loopw [5] (fun i wr => ∃ k : Nat, k ≤ n ∧ i = .int .i64 k ∧ Box wr w.heap.size 28 (Gm.cells g (.slice A n c)) ∧ Below w.heap.size w wr ∧ ∀ j (hj : j < g.shots.length), j < k → Gm.okShot (g.shots[j]'hj)) (fun i _ => n - (intOf i).toNat)
      case atStart => exact ⟨0, by omega, rfl, hB, hb, fun j _ hj => absurd hj (Nat.not_lt_zero j)⟩
      case round =>
        obtain ⟨m, hm, rfl, hB, hb, hall⟩ := hrel
        have HALL := Lib.hid hall
        clear hcr hlB hall
        have hcr := hB.cell
        have hlB := hB.lt
        by_cases hlt : m < n
        · have hml : m < g.shots.length := by have := hN.out; omega
          obtain ⟨ad, rfl, hbl, e0, e1, e2, e3, e4, e5⟩ := shots_at (hr.below hb) hN.out m hml
          have ty := hshots m hml
          have HS := Lib.hid (show Gm.ok g → Gm.okShot (g.shots[m]'hml) from fun h => h.2.2.2.2 m hml)
          have HZ := Lib.hid (show Gm.okShot (g.shots[m]'hml) → ∀ j (hj : j < g.shots.length), j < m + 1 → Gm.okShot (g.shots[j]'hj) from fun h j hjl hj => by
            by_cases e : j = m
            · subst e; exact h
            · exact HALL.out j hjl (by omega))
          generalize g.shots[m]'hml = s at e0 e1 e2 e3 e4 e5 ty HS HZ
          obtain ⟨owner, x, y, vx, vy, left⟩ := s
          dsimp only at e0 e1 e2 e3 e4 e5
          obtain ⟨to_, tx, ty, tvx, tvy, tl⟩ := ty
          unfold Gm.i32 Gm.i64 at *
          dsimp only at to_ tx ty tvx tvy tl
          have hmn : (m : Int) < n := by omega
          have HB := Lib.hid hB
          have HBB := Lib.hid hb
          clear hr hshots hb hB
          have cx := fun X => Lib.hid (refin_any x tx X)
          have cy := fun X => Lib.hid (refin_any y ty X)
          have cvx := fun X => Lib.hid (refslow_any vx 393216 tvx (by omega) X)
          have cvy := fun X => Lib.hid (refslow_any vy 393216 tvy (by omega) X)
          obtain ⟨bx, hx⟩ : ∃ b, b = (decide (0 ≤ x) && decide (x < 16777216)) := ⟨_, rfl⟩
          obtain ⟨b_y, hy⟩ : ∃ b, b = (decide (0 ≤ y) && decide (y < 16777216)) := ⟨_, rfl⟩
          obtain ⟨bvx, hvx⟩ : ∃ b, b = (decide (-393216 ≤ vx) && decide (vx ≤ 393216)) := ⟨_, rfl⟩
          obtain ⟨bvy, hvy⟩ : ∃ b, b = (decide (-393216 ≤ vy) && decide (vy ≤ 393216)) := ⟨_, rfl⟩
          rw [← hx] at cx; rw [← hy] at cy; rw [← hvx] at cvx; rw [← hvy] at cvy
          have HX := Lib.hid (show bx = true ↔ Gm.inF x by rw [hx]; unfold Gm.inF; simp)
          have HY := Lib.hid (show b_y = true ↔ Gm.inF y by rw [hy]; unfold Gm.inF; simp)
          have HVX := Lib.hid (show bvx = true ↔ Gm.slow vx 393216 by rw [hvx]; unfold Gm.slow; simp)
          have HVY := Lib.hid (show bvy = true ↔ Gm.slow vy 393216 by rw [hvy]; unfold Gm.slow; simp)
          have HO := Lib.hid (show Gm.ok g → bx = true ∧ b_y = true ∧ bvx = true ∧ bvy = true ∧ 0 ≤ owner ∧ owner < 8 ∧ 1 ≤ left ∧ left ≤ 24 from fun h => by obtain ⟨h5, h6, h1, h2, h3, h4, h7, h8⟩ := HS.out h; exact ⟨HX.out.2 h1, HY.out.2 h2, HVX.out.2 h3, HVY.out.2 h4, h5, h6, h7, h8⟩)
          have HQ := Lib.hid (show (bx = true ∧ b_y = true ∧ bvx = true ∧ bvy = true ∧ 0 ≤ owner ∧ owner < 8 ∧ 1 ≤ left ∧ left ≤ 24) → ∀ j (hj : j < g.shots.length), j < m + 1 → Gm.okShot (g.shots[j]'hj) from fun ⟨h1, h2, h3, h4, h5, h6, h7, h8⟩ => HZ.out ⟨h5, h6, HX.out.1 h1, HY.out.1 h2, HVX.out.1 h3, HVY.out.1 h4, h7, h8⟩)
          clear hx hy hvx hvy HX HY HVX HVY HS HZ tx ty tvx tvy to_ tl
          by_cases q0 : owner < 0
          · have f0 : decide (owner < 0) = true := decide_eq_true q0
            have hno := Lib.hid (show ¬ Gm.ok g from fun h => by have := (HO.out h).2.2.2.2.1; omega)
            clear HO HQ q0
            go_wp2_with (first | (go_at_call 74; first | ((with_reducible refine ((cx _).out).mono ?_); rintro e v1 ⟨rfl, rfl⟩) | ((with_reducible refine ((cy _).out).mono ?_); rintro e v1 ⟨rfl, rfl⟩)) | (go_at_call 75; first | ((with_reducible refine ((cvx _).out).mono ?_); rintro e v1 ⟨rfl, rfl⟩) | ((with_reducible refine ((cvy _).out).mono ?_); rintro e v1 ⟨rfl, rfl⟩)))
            go_ret
            exact ⟨by first | exact ⟨false, rfl, by simp; exact hno.out⟩ | exact .inl ⟨rfl, hno.out⟩, HBB.out.alloc (Nat.le_of_lt hlB) _⟩
          have f0 : decide (owner < 0) = false := decide_eq_false q0
          by_cases q1 : 8 ≤ owner
          · have f1 : decide (8 ≤ owner) = true := decide_eq_true q1
            have hno := Lib.hid (show ¬ Gm.ok g from fun h => by have := (HO.out h).2.2.2.2.2.1; omega)
            clear HO HQ q0 q1
            go_wp2_with (first | (go_at_call 74; first | ((with_reducible refine ((cx _).out).mono ?_); rintro e v1 ⟨rfl, rfl⟩) | ((with_reducible refine ((cy _).out).mono ?_); rintro e v1 ⟨rfl, rfl⟩)) | (go_at_call 75; first | ((with_reducible refine ((cvx _).out).mono ?_); rintro e v1 ⟨rfl, rfl⟩) | ((with_reducible refine ((cvy _).out).mono ?_); rintro e v1 ⟨rfl, rfl⟩)))
            go_ret
            exact ⟨by first | exact ⟨false, rfl, by simp; exact hno.out⟩ | exact .inl ⟨rfl, hno.out⟩, HBB.out.alloc (Nat.le_of_lt hlB) _⟩
          have f1 : decide (8 ≤ owner) = false := decide_eq_false q1
          cases bx
          · have hno := Lib.hid (show ¬ Gm.ok g from fun h => by have := (HO.out h).1; simp at this)
            clear HO HQ q0 q1
            go_wp2_with (first | (go_at_call 74; first | ((with_reducible refine ((cx _).out).mono ?_); rintro e v1 ⟨rfl, rfl⟩) | ((with_reducible refine ((cy _).out).mono ?_); rintro e v1 ⟨rfl, rfl⟩)) | (go_at_call 75; first | ((with_reducible refine ((cvx _).out).mono ?_); rintro e v1 ⟨rfl, rfl⟩) | ((with_reducible refine ((cvy _).out).mono ?_); rintro e v1 ⟨rfl, rfl⟩)))
            go_ret
            exact ⟨by first | exact ⟨false, rfl, by simp; exact hno.out⟩ | exact .inl ⟨rfl, hno.out⟩, HBB.out.alloc (Nat.le_of_lt hlB) _⟩
          cases b_y
          · have hno := Lib.hid (show ¬ Gm.ok g from fun h => by have := (HO.out h).2.1; simp at this)
            clear HO HQ q0 q1
            go_wp2_with (first | (go_at_call 74; first | ((with_reducible refine ((cx _).out).mono ?_); rintro e v1 ⟨rfl, rfl⟩) | ((with_reducible refine ((cy _).out).mono ?_); rintro e v1 ⟨rfl, rfl⟩)) | (go_at_call 75; first | ((with_reducible refine ((cvx _).out).mono ?_); rintro e v1 ⟨rfl, rfl⟩) | ((with_reducible refine ((cvy _).out).mono ?_); rintro e v1 ⟨rfl, rfl⟩)))
            go_ret
            exact ⟨by first | exact ⟨false, rfl, by simp; exact hno.out⟩ | exact .inl ⟨rfl, hno.out⟩, HBB.out.alloc (Nat.le_of_lt hlB) _⟩
          cases bvx
          · have hno := Lib.hid (show ¬ Gm.ok g from fun h => by have := (HO.out h).2.2.1; simp at this)
            clear HO HQ q0 q1
            go_wp2_with (first | (go_at_call 74; first | ((with_reducible refine ((cx _).out).mono ?_); rintro e v1 ⟨rfl, rfl⟩) | ((with_reducible refine ((cy _).out).mono ?_); rintro e v1 ⟨rfl, rfl⟩)) | (go_at_call 75; first | ((with_reducible refine ((cvx _).out).mono ?_); rintro e v1 ⟨rfl, rfl⟩) | ((with_reducible refine ((cvy _).out).mono ?_); rintro e v1 ⟨rfl, rfl⟩)))
            go_ret
            exact ⟨by first | exact ⟨false, rfl, by simp; exact hno.out⟩ | exact .inl ⟨rfl, hno.out⟩, HBB.out.alloc (Nat.le_of_lt hlB) _⟩
          cases bvy
          · have hno := Lib.hid (show ¬ Gm.ok g from fun h => by have := (HO.out h).2.2.2.1; simp at this)
            clear HO HQ q0 q1
            go_wp2_with (first | (go_at_call 74; first | ((with_reducible refine ((cx _).out).mono ?_); rintro e v1 ⟨rfl, rfl⟩) | ((with_reducible refine ((cy _).out).mono ?_); rintro e v1 ⟨rfl, rfl⟩)) | (go_at_call 75; first | ((with_reducible refine ((cvx _).out).mono ?_); rintro e v1 ⟨rfl, rfl⟩) | ((with_reducible refine ((cvy _).out).mono ?_); rintro e v1 ⟨rfl, rfl⟩)))
            go_ret
            exact ⟨by first | exact ⟨false, rfl, by simp; exact hno.out⟩ | exact .inl ⟨rfl, hno.out⟩, HBB.out.alloc (Nat.le_of_lt hlB) _⟩
          by_cases q2 : left < 1
          · have f2 : decide (left < 1) = true := decide_eq_true q2
            have hno := Lib.hid (show ¬ Gm.ok g from fun h => by have := (HO.out h).2.2.2.2.2.2.1; omega)
            clear HO HQ q0 q1 q2
            go_wp2_with (first | (go_at_call 74; first | ((with_reducible refine ((cx _).out).mono ?_); rintro e v1 ⟨rfl, rfl⟩) | ((with_reducible refine ((cy _).out).mono ?_); rintro e v1 ⟨rfl, rfl⟩)) | (go_at_call 75; first | ((with_reducible refine ((cvx _).out).mono ?_); rintro e v1 ⟨rfl, rfl⟩) | ((with_reducible refine ((cvy _).out).mono ?_); rintro e v1 ⟨rfl, rfl⟩)))
            go_ret
            exact ⟨by first | exact ⟨false, rfl, by simp; exact hno.out⟩ | exact .inl ⟨rfl, hno.out⟩, HBB.out.alloc (Nat.le_of_lt hlB) _⟩
          have f2 : decide (left < 1) = false := decide_eq_false q2
          by_cases q3 : 24 < left
          · have f3 : decide (24 < left) = true := decide_eq_true q3
            have hno := Lib.hid (show ¬ Gm.ok g from fun h => by have := (HO.out h).2.2.2.2.2.2.2; omega)
            clear HO HQ q0 q1 q2 q3
            go_wp2_with (first | (go_at_call 74; first | ((with_reducible refine ((cx _).out).mono ?_); rintro e v1 ⟨rfl, rfl⟩) | ((with_reducible refine ((cy _).out).mono ?_); rintro e v1 ⟨rfl, rfl⟩)) | (go_at_call 75; first | ((with_reducible refine ((cvx _).out).mono ?_); rintro e v1 ⟨rfl, rfl⟩) | ((with_reducible refine ((cvy _).out).mono ?_); rintro e v1 ⟨rfl, rfl⟩)))
            go_ret
            exact ⟨by first | exact ⟨false, rfl, by simp; exact hno.out⟩ | exact .inl ⟨rfl, hno.out⟩, HBB.out.alloc (Nat.le_of_lt hlB) _⟩
          have f3 : decide (24 < left) = false := decide_eq_false q3
          have ho := Lib.hid (HQ.out ⟨rfl, rfl, rfl, rfl, by omega, by omega, by omega, by omega⟩)
          clear HO HQ q0 q1 q2 q3
          go_wp2_with (first | (go_at_call 74; first | ((with_reducible refine ((cx _).out).mono ?_); rintro e v1 ⟨rfl, rfl⟩) | ((with_reducible refine ((cy _).out).mono ?_); rintro e v1 ⟨rfl, rfl⟩)) | (go_at_call 75; first | ((with_reducible refine ((cvx _).out).mono ?_); rintro e v1 ⟨rfl, rfl⟩) | ((with_reducible refine ((cvy _).out).mono ?_); rintro e v1 ⟨rfl, rfl⟩)))
          go_roundw
          case rel => exact ⟨m + 1, by omega, by go_num, HB.out.alloc _, HBB.out.alloc (Nat.le_of_lt hlB) _, ho.out⟩
          case measure => simp [intOf]; omega
        · have hmn : ¬ (m : Int) < n := by omega
          have hyes := Lib.hid (show Gm.ok g from ⟨HF.out.1, HF.out.2.1, HF.out.2.2, HA8.out, fun j hj => HALL.out j hj (by have := hN.out; omega)⟩)
          have HBB := Lib.hid hb
          clear hr hshots hb hB HALL
          go_wp2
          go_ret
          exact ⟨by first | exact ⟨true, rfl, by simp; exact hyes.out⟩ | exact .inr ⟨rfl, hyes.out⟩, HBB.out⟩
end Go.Proofs.Ytghomofakpjglaa
namespace Go.Proofs.Ytghomofakpjglaa
open Go.RowKit Go.Shelf
set_option linter.unusedVariables false
set_option linter.unusedSimpArgs false

set_option maxRecDepth 100000 in
set_option maxHeartbeats 8000000 in
theorem refros_may (r : Ros.R) (w : World) :
    Calls Try.prog 42 #[.agg (Ros.cells r)] w fun e w' => (∃ v, e = .returned (.bool v) ∧ (v = true ↔ Ros.Ok r)) ∧ Below w.heap.size w w' := by
  have hc : ∀ W : World, ∀ j, (W.alloc (.cells (Ros.cells r) 33)).cell? ⟨W.heap.size, j, none⟩ = (Ros.cells r)[j]? := fun W j => (Box.made W _ _).cell j
  have h0 := Ros.cells_0 r
  by_cases hv1 : r.version < 0
  · have d1 : decide (r.version < 0) = true := decide_eq_true hv1
    have hno := Lib.hid (show ¬ Ros.Ok r from fun h => by have := h.1; omega)
    clear hv1
    go_enter Try.func42, Try.ntmps42
    go_wp2
    go_ret
    exact ⟨by first | exact ⟨false, rfl, by simp; exact hno.out⟩ | exact .inl ⟨rfl, hno.out⟩, one_below _ _⟩
  have d1 : decide (r.version < 0) = false := decide_eq_false hv1
  by_cases hv2 : 1073741824 < r.version
  · have d2 : decide (1073741824 < r.version) = true := decide_eq_true hv2
    have hno := Lib.hid (show ¬ Ros.Ok r from fun h => by have := h.1; omega)
    clear hv1 hv2
    go_enter Try.func42, Try.ntmps42
    go_wp2
    go_ret
    exact ⟨by first | exact ⟨false, rfl, by simp; exact hno.out⟩ | exact .inl ⟨rfl, hno.out⟩, one_below _ _⟩
  have d2 : decide (1073741824 < r.version) = false := decide_eq_false hv2
  have HV := Lib.hid (show 0 ≤ r.version ∧ r.version ≤ 1073741824 from ⟨by omega, by omega⟩)
  clear hv1 hv2
  go_enter Try.func42, Try.ntmps42
  go_wp2
  go_loopw [3] (fun i wr => ∃ k : Nat, k ≤ 8 ∧ i = .int .i64 k ∧ Box wr w.heap.size 33 (Ros.cells r) ∧ Below w.heap.size w wr ∧ (∀ j, j < k → Ros.OkSeat r j) ∧ ∀ j i, j < i → i < k → r.peer j = -1 ∨ r.peer j ≠ r.peer i) (fun i _ => 8 - (intOf i).toNat)
  case atStart => exact ⟨0, by omega, rfl, Box.made _ _ _, one_below _ _, fun j hj => absurd hj (Nat.not_lt_zero j), fun j i _ hi => absurd hi (Nat.not_lt_zero i)⟩
  case round =>
    obtain ⟨k, hk, rfl, hB, hb, hall, hp⟩ := hrel
    have HALL := Lib.hid hall
    have HP := Lib.hid hp
    clear hall hp d1 d2 h0 hc
    by_cases hlt : k < 8
    · have hk8 : (k : Int) < 8 := by omega
      have rc := hB.cell
      have hlB := hB.lt
      have rp := Ros.cells_peer r k hlt
      have rg := Ros.cells_gen r k hlt
      have HS := Lib.hid (show Ros.Ok r → (0 ≤ r.gen k ∧ r.gen k ≤ 60000) ∧ (r.peer k = -1 ∨ ((0 ≤ r.peer k ∧ r.peer k < 12) ∧ 0 < r.gen k)) from fun h => h.seat k hlt)
      have HZ := Lib.hid (show (0 ≤ r.gen k ∧ r.gen k ≤ 60000) ∧ (r.peer k = -1 ∨ ((0 ≤ r.peer k ∧ r.peer k < 12) ∧ 0 < r.gen k)) → ∀ j, j < k + 1 → Ros.OkSeat r j from fun h j hj => by
        by_cases e : j = k
        · rw [e]; exact h
        · exact HALL.out j (by omega))
      obtain ⟨p, hpk⟩ : ∃ p, p = r.peer k := ⟨_, rfl⟩
      obtain ⟨g, hgk⟩ : ∃ g, g = r.gen k := ⟨_, rfl⟩
      rw [← hpk] at rp HS HZ
      rw [← hgk] at rg HS HZ
      have HPK := Lib.hid hpk
      have HB := Lib.hid hB
      have HBB := Lib.hid hb
      clear hpk hgk hB hb HALL
      by_cases q0 : p < -1
      · have f0 : decide (p < -1) = true := decide_eq_true q0
        have hno := Lib.hid (show ¬ Ros.Ok r from fun h => by have := HS.out h; omega)
        clear HS HZ q0
        go_wp2
        go_ret
        exact ⟨by first | exact ⟨false, rfl, by simp; exact hno.out⟩ | exact .inl ⟨rfl, hno.out⟩, HBB.out.alloc (Nat.le_of_lt hlB) _⟩
      have f0 : decide (p < -1) = false := decide_eq_false q0
      by_cases q1 : 12 ≤ p
      · have f1 : decide (12 ≤ p) = true := decide_eq_true q1
        have hno := Lib.hid (show ¬ Ros.Ok r from fun h => by have := HS.out h; omega)
        clear HS HZ q0 q1
        go_wp2
        go_ret
        exact ⟨by first | exact ⟨false, rfl, by simp; exact hno.out⟩ | exact .inl ⟨rfl, hno.out⟩, HBB.out.alloc (Nat.le_of_lt hlB) _⟩
      have f1 : decide (12 ≤ p) = false := decide_eq_false q1
      by_cases q2 : g < 0
      · have f2 : decide (g < 0) = true := decide_eq_true q2
        have hno := Lib.hid (show ¬ Ros.Ok r from fun h => by have := HS.out h; omega)
        clear HS HZ q0 q1 q2
        go_wp2
        go_ret
        exact ⟨by first | exact ⟨false, rfl, by simp; exact hno.out⟩ | exact .inl ⟨rfl, hno.out⟩, HBB.out.alloc (Nat.le_of_lt hlB) _⟩
      have f2 : decide (g < 0) = false := decide_eq_false q2
      by_cases q3 : 60000 < g
      · have f3 : decide (60000 < g) = true := decide_eq_true q3
        have hno := Lib.hid (show ¬ Ros.Ok r from fun h => by have := HS.out h; omega)
        clear HS HZ q0 q1 q2 q3
        go_wp2
        go_ret
        exact ⟨by first | exact ⟨false, rfl, by simp; exact hno.out⟩ | exact .inl ⟨rfl, hno.out⟩, HBB.out.alloc (Nat.le_of_lt hlB) _⟩
      have f3 : decide (60000 < g) = false := decide_eq_false q3
      by_cases q4 : 0 ≤ p
      · have f4 : decide (0 ≤ p) = true := decide_eq_true q4
        by_cases q5 : g < 1
        · have f5 : decide (g < 1) = true := decide_eq_true q5
          have hno := Lib.hid (show ¬ Ros.Ok r from fun h => by have := HS.out h; omega)
          clear HS HZ q0 q1 q2 q3 q4 q5
          go_wp2
          go_ret
          exact ⟨by first | exact ⟨false, rfl, by simp; exact hno.out⟩ | exact .inl ⟨rfl, hno.out⟩, HBB.out.alloc (Nat.le_of_lt hlB) _⟩
        have f5 : decide (g < 1) = false := decide_eq_false q5
        have hnew := Lib.hid (HZ.out (by omega))
        clear HS HZ q0 q1 q2 q3 q5
        go_wp2
        go_loopw [5] (fun i wr2 => ∃ m : Nat, m ≤ k ∧ i = .int .i64 m ∧ Box wr2 w.heap.size 33 (Ros.cells r) ∧ Box wr2 wr.heap.size 30 #[.int .i64 p, .int .i64 g] ∧ Below w.heap.size w wr2 ∧ ∀ j, j < m → r.peer j = -1 ∨ r.peer j ≠ p) (fun i _ => k - (intOf i).toNat)
        case atStart => exact ⟨0, by omega, rfl, HB.out.alloc _, Box.made _ _ _, HBB.out.alloc (Nat.le_of_lt hlB) _, fun j hj => absurd hj (Nat.not_lt_zero j)⟩
        case round =>
          obtain ⟨m, hm, rfl, hB2, hS2, hb2, hall2⟩ := hrel
          have HALL2 := Lib.hid hall2
          clear hall2 rc rp rg
          by_cases hmk : m < k
          · have hm8 : m < 8 := by omega
            have hm8' : (m : Int) < 8 := by omega
            have hmk' : (m : Int) < k := by omega
            have rc := hB2.cell
            have sc := hS2.cell
            have rp := Ros.cells_peer r m hm8
            have s0 : (#[.int .i64 p, .int .i64 g] : Array Value)[0]? = some (.int .i64 p) := rfl
            obtain ⟨q, hq⟩ : ∃ q, q = r.peer m := ⟨_, rfl⟩
            rw [← hq] at rp
            have HB2 := Lib.hid hB2
            have HS2 := Lib.hid hS2
            have HBB2 := Lib.hid hb2
            by_cases hqp : q = p
            · have hqe : (q == p) = true := by simpa using hqp
              have hno := Lib.hid (show ¬ Ros.Ok r from fun h => by
                have := (Ros.ok_iff.1 h).2.2 m k hmk hlt
                rw [← hq, ← HPK.out] at this
                omega)
              clear hq hqp hB2 hS2 hb2 q4
              go_upto_region 12 with fail
              go_quiet (fail)
              go_wp2
              go_ret
              exact ⟨by first | exact ⟨false, rfl, by simp; exact hno.out⟩ | exact .inl ⟨rfl, hno.out⟩, draws_below HBB2.out _⟩
            have hqe : (q == p) = false := by simpa using hqp
            have hn2 := Lib.hid (show ∀ j, j < m + 1 → r.peer j = -1 ∨ r.peer j ≠ p from fun j hj => by
              by_cases e : j = m
              · rw [e, ← hq]; exact .inr hqp
              · exact HALL2.out j (by omega))
            clear hq hB2 hS2 hb2 hqp q4
            go_upto_region 12 with fail
            go_quiet (fail)
            go_wp2
            go_roundw
            case rel => exact ⟨m + 1, by omega, by go_num, HB2.out.draws _, HS2.out.draws _, draws_below HBB2.out _, hn2.out⟩
            case measure => simp [intOf]; omega
          · have hmk' : ¬ (m : Int) < k := by omega
            have HB2 := Lib.hid hB2
            have HBB2 := Lib.hid hb2
            have hall3 := Lib.hid (show ∀ j i, j < i → i < k + 1 → r.peer j = -1 ∨ r.peer j ≠ r.peer i from fun j i hji hi => by
              by_cases e : i = k
              · rw [e, ← HPK.out]; exact HALL2.out j (by omega)
              · exact HP.out j i hji (by omega))
            clear hB2 hS2 hb2
            go_wp2
            go_roundw
            case rel => exact ⟨k + 1, by omega, by go_num, HB2.out, HBB2.out, hnew.out, hall3.out⟩
            case measure => simp [intOf]; omega
      · have f4 : decide (0 ≤ p) = false := decide_eq_false q4
        have hpm := Lib.hid (show p = -1 by omega)
        have hnew := Lib.hid (HZ.out (by omega))
        clear HS HZ q0 q1 q2 q3 
        go_wp2
        go_loopw [5] (fun i wr2 => ∃ m : Nat, m ≤ k ∧ i = .int .i64 m ∧ Box wr2 w.heap.size 33 (Ros.cells r) ∧ Box wr2 wr.heap.size 30 #[.int .i64 p, .int .i64 g] ∧ Below w.heap.size w wr2 ∧ ∀ j, j < m → r.peer j = -1 ∨ r.peer j ≠ p) (fun i _ => k - (intOf i).toNat)
        case atStart => exact ⟨0, by omega, rfl, HB.out.alloc _, Box.made _ _ _, HBB.out.alloc (Nat.le_of_lt hlB) _, fun j hj => absurd hj (Nat.not_lt_zero j)⟩
        case round =>
          obtain ⟨m, hm, rfl, hB2, hS2, hb2, hall2⟩ := hrel
          have HALL2 := Lib.hid hall2
          clear hall2 rc rp rg
          by_cases hmk : m < k
          · have hm8 : m < 8 := by omega
            have hm8' : (m : Int) < 8 := by omega
            have hmk' : (m : Int) < k := by omega
            have rc := hB2.cell
            have sc := hS2.cell
            have rp := Ros.cells_peer r m hm8
            have s0 : (#[.int .i64 p, .int .i64 g] : Array Value)[0]? = some (.int .i64 p) := rfl
            obtain ⟨q, hq⟩ : ∃ q, q = r.peer m := ⟨_, rfl⟩
            rw [← hq] at rp
            have HB2 := Lib.hid hB2
            have HS2 := Lib.hid hS2
            have HBB2 := Lib.hid hb2
            have hn2 := Lib.hid (show ∀ j, j < m + 1 → r.peer j = -1 ∨ r.peer j ≠ p from fun j hj => by
              by_cases e : j = m
              · rw [e, ← hq]; first | (by_cases e2 : q = -1; exact .inl e2; exact .inr (fun e3 => e2 (by have := hpm.out; omega)))
              · exact HALL2.out j (by omega))
            clear hq hB2 hS2 hb2 q4
            go_upto_region 12 with fail
            go_quiet (fail)
            go_wp2
            go_roundw
            case rel => exact ⟨m + 1, by omega, by go_num, HB2.out.draws _, HS2.out.draws _, draws_below HBB2.out _, hn2.out⟩
            case measure => simp [intOf]; omega
          · have hmk' : ¬ (m : Int) < k := by omega
            have HB2 := Lib.hid hB2
            have HBB2 := Lib.hid hb2
            have hall3 := Lib.hid (show ∀ j i, j < i → i < k + 1 → r.peer j = -1 ∨ r.peer j ≠ r.peer i from fun j i hji hi => by
              by_cases e : i = k
              · rw [e, ← HPK.out]; exact HALL2.out j (by omega)
              · exact HP.out j i hji (by omega))
            clear hB2 hS2 hb2
            go_wp2
            go_roundw
            case rel => exact ⟨k + 1, by omega, by go_num, HB2.out, HBB2.out, hnew.out, hall3.out⟩
            case measure => simp [intOf]; omega
    · have hk8 : ¬ (k : Int) < 8 := by omega
      have hyes := Lib.hid (show Ros.Ok r from Ros.ok_iff.2 ⟨HV.out, fun j hj => HALL.out j (by omega), fun j i hji hi => HP.out j i hji (by omega)⟩)
      have HBB := Lib.hid hb
      clear hB hb
      go_wp2
      go_ret
      exact ⟨by first | exact ⟨true, rfl, by simp; exact hyes.out⟩ | exact .inr ⟨rfl, hyes.out⟩, HBB.out⟩
end Go.Proofs.Ytghomofakpjglaa
namespace Go.Proofs.Ytghomofakpjglaa
open Go.RowKit Go.Shelf
set_option linter.unusedVariables false
set_option linter.unusedSimpArgs false

set_option maxRecDepth 100000 in
set_option maxHeartbeats 4000000 in
theorem refstate_any (g : Gm.G) (r : Ros.R) (A : Option Addr) (n c : Nat) (w : World) (hty : Gm.ty g) (hn : n = g.shots.length) (hn63 : n ≤ maxLen) (hr : Lies w w.heap.size 6 A n (Gm.shotCells g.shots)) :
    Calls Try.prog 15 #[.agg (Im.cells g (.slice A n c) r)] w fun e w' => (∃ v, e = .returned (.bool v) ∧ (v = true ↔ Im.Ok g r)) ∧ Below w.heap.size w w' := by
  have P0 := Lib.hid (Box.made w 35 (Im.cells g (.slice A n c) r))
  have K0 := Lib.hid (one_below w (.cells (Im.cells g (.slice A n c) r) 35))
  have HQ := Lib.hid ((hr.below K0.out).wider K0.out.size)
  have cg := fun X hX => Lib.hid (refmay_any g A n c X hty hn hn63 hX)
  have cr := fun X => Lib.hid (refros_may r X)
  clear hr hn hty hn63
  by_cases hg : Gm.ok g
  · have HG := Lib.hid hg
    by_cases hok : Ros.Ok r
    · have HR := Lib.hid hok
      clear hg hok
      go_enter Try.func15, Try.ntmps15
      go_wp2_with (first | ((with_reducible refine im_load_game rfl rfl ?_); apply LoadIm.mk rfl; (focus (with_reducible exact P0.out)); dsimp only) | ((with_reducible refine im_load_ros_g ?_ rfl ?_); (focus first | rfl | kernel_rfl | simp [Region.wanted, yielded]); apply LoadIm.mk rfl; (focus (with_reducible exact P1.out)); dsimp only) | (go_at_call 41; ((with_reducible refine ((cg _ HQ.out).out).mono ?_); rintro e w1 ⟨⟨v1, rfl, hv1⟩, hb⟩; obtain rfl : v1 = true := hv1.2 HG.out; have P1 := Lib.hid (P0.out.below hb P0.out.lt); have K1 := Lib.hid (K0.out.trans (hb.mono K0.out.size)); clear hb hv1)) | (go_at_call 42; ((with_reducible refine ((cr _).out).mono ?_); rintro e w2 ⟨⟨v2, rfl, hv2⟩, hb⟩; obtain rfl : v2 = true := hv2.2 HR.out; have P2 := Lib.hid (P1.out.below hb P1.out.lt); have K2 := Lib.hid (K1.out.trans (hb.mono K1.out.size)); clear hb hv2)))
      go_loopw [3] (fun i wr => ∃ k : Nat, k ≤ 8 ∧ i = .int .i64 k ∧ Box wr w.heap.size 35 (Im.cells g (.slice A n c) r) ∧ Below w.heap.size w wr ∧ ∀ j, j < k → (g.ship j).on = decide (0 ≤ r.peer j)) (fun i _ => 8 - (intOf i).toNat)
      case atStart => exact ⟨0, by omega, rfl, P2.out, K2.out, fun j hj => absurd hj (Nat.not_lt_zero j)⟩
      case round =>
        obtain ⟨k, hk, rfl, hB, hb, hall⟩ := hrel
        clear P0 K0 P1 K1 P2 K2 HQ cg cr
        by_cases hlt : k < 8
        · have hk8 : (k : Int) < 8 := by omega
          have e0 : wr.cell? ⟨w.heap.size, 2 + k * 7, none⟩ = some (.bool (g.ship k).on) := (hB.cell _).trans ((Im.cells_ship g _ r k 0 hlt (by omega)).trans rfl)
          have e1 : wr.cell? ⟨w.heap.size, 60 + k * 2, none⟩ = some (.int .i64 (r.peer k)) := (hB.cell _).trans (by
            have := Im.cells_r g (.slice A n c) r (1 + k * 2)
            rw [show 60 + k * 2 = 59 + (1 + k * 2) by omega]
            exact this.trans (Ros.cells_peer r k hlt))
          obtain ⟨on, hon⟩ : ∃ on, on = (g.ship k).on := ⟨_, rfl⟩
          obtain ⟨pk, hpk⟩ : ∃ pk, pk = r.peer k := ⟨_, rfl⟩
          rw [← hon] at e0
          rw [← hpk] at e1
          have HON := Lib.hid hon
          have HPK := Lib.hid hpk
          have HALL := Lib.hid hall
          have HB := Lib.hid hB
          have HBB := Lib.hid hb
          clear hon hpk hall hB hb
          by_cases hm : on = decide (0 ≤ pk)
          · have hnew := Lib.hid (show ∀ j, j < k + 1 → (g.ship j).on = decide (0 ≤ r.peer j) from fun j hj => by
              by_cases e : j = k
              · rw [e, ← HON.out, ← HPK.out]; exact hm
              · exact HALL.out j (by omega))
            cases hd : decide (0 ≤ pk)
            · rw [hd] at hm
              subst hm
              go_upto_region 6 with fail
              go_quiet (fail)
              go_wp2
              go_roundw
              case rel => exact ⟨k + 1, by omega, by go_num, HB.out.draws _, draws_below HBB.out _, hnew.out⟩
              case measure => simp [intOf]; omega
            · rw [hd] at hm
              subst hm
              go_upto_region 6 with fail
              go_quiet (fail)
              go_wp2
              go_roundw
              case rel => exact ⟨k + 1, by omega, by go_num, HB.out.draws _, draws_below HBB.out _, hnew.out⟩
              case measure => simp [intOf]; omega
          · have hno := Lib.hid (show ¬ Im.Ok g r from fun h => hm (by rw [HON.out, HPK.out]; exact h.2.2 k hlt))
            cases hd : decide (0 ≤ pk)
            · obtain rfl : on = true := by
                cases on
                · exact absurd hd.symm hm
                · rfl
              clear hm
              go_upto_region 6 with fail
              go_quiet (fail)
              go_wp2
              go_ret
              exact ⟨by first | exact ⟨false, rfl, by simp; exact hno.out⟩ | exact .inl ⟨rfl, hno.out⟩, draws_below HBB.out _⟩
            · obtain rfl : on = false := by
                cases on
                · rfl
                · exact absurd hd.symm hm
              clear hm
              go_upto_region 6 with fail
              go_quiet (fail)
              go_wp2
              go_ret
              exact ⟨by first | exact ⟨false, rfl, by simp; exact hno.out⟩ | exact .inl ⟨rfl, hno.out⟩, draws_below HBB.out _⟩
        · have hk8 : ¬ (k : Int) < 8 := by omega
          have hyes := Lib.hid (show Im.Ok g r from ⟨HG.out, HR.out, fun j hj => hall j (by omega)⟩)
          have HBB := Lib.hid hb
          clear hall hB hb
          go_wp2
          go_ret
          exact ⟨by first | exact ⟨true, rfl, by simp; exact hyes.out⟩ | exact .inr ⟨rfl, hyes.out⟩, HBB.out⟩
    · have HR := Lib.hid hok
      have hno := Lib.hid (show ¬ Im.Ok g r from fun h => hok h.2.1)
      clear hg hok
      go_enter Try.func15, Try.ntmps15
      go_wp2_with (first | ((with_reducible refine im_load_game rfl rfl ?_); apply LoadIm.mk rfl; (focus (with_reducible exact P0.out)); dsimp only) | ((with_reducible refine im_load_ros_g ?_ rfl ?_); (focus first | rfl | kernel_rfl | simp [Region.wanted, yielded]); apply LoadIm.mk rfl; (focus (with_reducible exact P1.out)); dsimp only) | (go_at_call 41; ((with_reducible refine ((cg _ HQ.out).out).mono ?_); rintro e w1 ⟨⟨v1, rfl, hv1⟩, hb⟩; obtain rfl : v1 = true := hv1.2 HG.out; have P1 := Lib.hid (P0.out.below hb P0.out.lt); have K1 := Lib.hid (K0.out.trans (hb.mono K0.out.size)); clear hb hv1)) | (go_at_call 42; ((with_reducible refine ((cr _).out).mono ?_); rintro e w2 ⟨⟨v2, rfl, hv2⟩, hb⟩; obtain rfl : v2 = false := (by cases v2 <;> first | rfl | exact absurd (hv2.1 rfl) HR.out); have P2 := Lib.hid (P1.out.below hb P1.out.lt); have K2 := Lib.hid (K1.out.trans (hb.mono K1.out.size)); clear hb hv2)))
      go_ret
      exact ⟨by first | exact ⟨false, rfl, by simp; exact hno.out⟩ | exact .inl ⟨rfl, hno.out⟩, K2.out⟩
  · have HG := Lib.hid hg
    have hno := Lib.hid (show ¬ Im.Ok g r from fun h => hg h.1)
    have HR := Lib.hid True.intro
    clear hg
    go_enter Try.func15, Try.ntmps15
    go_wp2_with (first | ((with_reducible refine im_load_game rfl rfl ?_); apply LoadIm.mk rfl; (focus (with_reducible exact P0.out)); dsimp only) | ((with_reducible refine im_load_ros_g ?_ rfl ?_); (focus first | rfl | kernel_rfl | simp [Region.wanted, yielded]); apply LoadIm.mk rfl; (focus (with_reducible exact P1.out)); dsimp only) | (go_at_call 41; ((with_reducible refine ((cg _ HQ.out).out).mono ?_); rintro e w1 ⟨⟨v1, rfl, hv1⟩, hb⟩; obtain rfl : v1 = false := (by cases v1 <;> first | rfl | exact absurd (hv1.1 rfl) HG.out); have P1 := Lib.hid (P0.out.below hb P0.out.lt); have K1 := Lib.hid (K0.out.trans (hb.mono K0.out.size)); clear hb hv1)) | (go_at_call 42; ((with_reducible refine ((cr _).out).mono ?_); rintro e w2 ⟨⟨v2, rfl, hv2⟩, hb⟩; obtain rfl : v2 = false := (by cases v2 <;> first | rfl | exact absurd (hv2.1 rfl) HR.out); have P2 := Lib.hid (P1.out.below hb P1.out.lt); have K2 := Lib.hid (K1.out.trans (hb.mono K1.out.size)); clear hb hv2)))
    go_ret
    exact ⟨by first | exact ⟨false, rfl, by simp; exact hno.out⟩ | exact .inl ⟨rfl, hno.out⟩, K1.out⟩

theorem few_any (g : Gm.G) (A : Option Addr) (n c : Nat) (w : World) (hn63 : n ≤ maxLen) :
    Calls Try.prog 12 #[.agg (Gm.cells g (.slice A n c))] w fun e w' => e = .returned (.bool (decide (n ≤ 60))) ∧ Below w.heap.size w w' := by
  have hc : ∀ W : World, ∀ j, (W.alloc (.cells (Gm.cells g (.slice A n c)) 28)).cell? ⟨W.heap.size, j, none⟩ = (Gm.cells g (.slice A n c))[j]? := fun W j => (Box.made W _ _).cell j
  have h58 := Gm.cells_58 g (.slice A n c)
  have n63 : (n : Int) ≤ 9223372036854775807 := by unfold maxLen at hn63; omega
  have hd : decide (n ≤ 60) = decide ((n : Int) ≤ 60) := by rw [Bool.eq_iff_iff]; simp; omega
  rw [hd]
  go_enter Try.func12, Try.ntmps12
  go_wp2
  go_ret
  exact ⟨rfl, one_below _ _⟩
end Go.Proofs.Ytghomofakpjglaa
namespace Go.Proofs.Ytghomofakpjglaa
open Go.RowKit Go.Shelf
set_option linter.unusedVariables false
set_option linter.unusedSimpArgs false

/-- The number that stands for bytes. -/
def Im.sum (l : List Int) : Int := Dn.seed (strOfNums l).data.toList

theorem sum_any (l : List Int) (m : Nat) (A : Option Addr) (c : Nat) (w : World) (hm : l.length = m) (hmx : m ≤ maxLen) (hL : Lies w w.heap.size 1 A m (Im.u8s l)) :
    Calls Try.prog 20 #[.slice A m c] w fun e w' => e = .returned (.int .u64 (Im.sum l)) ∧ Below w.heap.size w w' := by
  have hcv := conv_bytes l m A c w _ hm hL
  have cs := fun X => Lib.hid (seed_any (strOfNums l) X (by rw [strOfNums_size]; omega))
  rw [show Dn.seed (strOfNums l).data.toList = Im.sum l from rfl] at cs
  generalize Im.sum l = q at *
  generalize strOfNums l = st at *
  clear hL hm
  go_enter Try.func20, Try.ntmps20
  go_wp2_with (go_at_call 52; ((with_reducible refine ((cs _).out).mono ?_); rintro e w1 ⟨rfl, hb⟩))
  go_ret
  exact ⟨rfl, hb⟩

theorem of_yes (g : Gm.G) (r : Ros.R) (A : Option Addr) (n c : Nat) (w : World) (hok : Im.Ok g r) (hd : 0 ≤ g.dice ∧ g.dice ≤ 18446744073709551615) (hn : n = g.shots.length) (hr : Lies w w.heap.size 6 A n (Gm.shotCells g.shots)) :
    Calls Try.prog 22 #[.agg (Im.cells g (.slice A n c) r)] w fun e w' => e = .returned (.int .u64 (Im.sum (Im.put g r))) ∧ Below w.heap.size w w' := by
  have P0 := Lib.hid (Box.made w 35 (Im.cells g (.slice A n c) r))
  have K0 := Lib.hid (one_below w (.cells (Im.cells g (.slice A n c) r) 35))
  have hlen := Im.put_le g r hok.1.2.2.1
  have cp := Lib.hid (put_yes g r A n c _ hok hd hn ((hr.below K0.out).wider K0.out.size))
  have cs := fun A' c' X hX => Lib.hid (sum_any (Im.put g r) (Im.put g r).length A' c' X rfl (by unfold maxLen; omega) hX)
  generalize (Im.put g r).length = m at *
  generalize Im.sum (Im.put g r) = q at *
  generalize Im.put g r = bs at *
  clear hr hn hok hd hlen
  go_enter Try.func22, Try.ntmps22
  go_wp2_with (first | ((with_reducible refine im_load_state rfl rfl ?_); apply LoadIm.mk rfl; (focus (with_reducible exact P0.out)); dsimp only) | (go_at_call 14; ((with_reducible refine (cp.out).mono ?_); rintro e w1 ⟨A1, c1, rfl, hL, hb⟩; have K1 := Lib.hid (K0.out.trans (hb.mono K0.out.size)); have cs1 := cs A1 c1 w1 hL; clear hb cs hL)) | (go_at_call 20; ((with_reducible refine (cs1.out).mono ?_); rintro e w2 ⟨rfl, hb⟩; have K2 := Lib.hid (K1.out.trans (hb.mono K1.out.size)); clear hb)))
  go_ret
  exact ⟨rfl, K2.out⟩
end Go.Proofs.Ytghomofakpjglaa
namespace Go.Proofs.Ytghomofakpjglaa
open Go.RowKit Go.Shelf
set_option linter.unusedVariables false
set_option linter.unusedSimpArgs false

theorem Im.cells_upd (g : Gm.G) (s : Value) (r : Ros.R) (k : Nat) (hk : k < 8) (t : Gm.Ship) (W : World) (B : Nat) (hB : Box W B 35 (Im.cells g s r)) : Box (stored W B k t) B 35 (Im.cells { g with ship := Gm.upd g.ship k t } s r) := by
  have h := ((((((hB.put (2 + k * 7) (.bool t.on)).put (2 + k * 7 + 1) (.int .i32 t.x)).put (2 + k * 7 + 2) (.int .i32 t.y)).put (2 + k * 7 + 3) (.int .i32 t.vx)).put (2 + k * 7 + 4) (.int .i32 t.vy)).put (2 + k * 7 + 5) (.int .i64 t.cool)).put (2 + k * 7 + 6) (.int .i64 t.score)
  have e : ∀ (cs : Array Value) (i : Nat) (v : Value), i < 59 → cs.size = 59 → (cs ++ Ros.cells r).setIfInBounds i v = cs.setIfInBounds i v ++ Ros.cells r := fun cs i v hi hc => by rw [Array.setIfInBounds_append, if_pos (by omega)]
  unfold Im.cells at h ⊢
  rw [e _ _ _ (by omega) (by simp [Gm.cells_size]), e _ _ _ (by omega) (by simp [Gm.cells_size]), e _ _ _ (by omega) (by simp [Gm.cells_size]), e _ _ _ (by omega) (by simp [Gm.cells_size]), e _ _ _ (by omega) (by simp [Gm.cells_size]), e _ _ _ (by omega) (by simp [Gm.cells_size]), e _ _ _ (by omega) (by simp [Gm.cells_size]), set7 g s k hk t] at h
  exact h
theorem Im.cells_on (g : Gm.G) (s : Value) (r : Ros.R) (k : Nat) (hk : k < 8) (t : Gm.Ship) (ht : t = g.ship k) : (Im.cells g s r).setIfInBounds (2 + k * 7) (.bool true) = Im.cells { g with ship := Gm.upd g.ship k { t with on := true } } s r := by
  subst ht
  unfold Im.cells
  rw [Array.setIfInBounds_append, if_pos (by rw [Gm.cells_size]; omega)]
  refine congrArg (· ++ Ros.cells r) ?_
  match k, hk with | 0, _ | 1, _ | 2, _ | 3, _ | 4, _ | 5, _ | 6, _ | 7, _ => rfl

set_option maxRecDepth 100000 in
set_option maxHeartbeats 4000000 in
theorem seats_law (g : Gm.G) (r : Ros.R) (A : Option Addr) (n c : Nat) (slot : Int) (w : World) (hs : -9223372036854775808 ≤ slot ∧ slot ≤ 9223372036854775807) (hty : Gm.ty g) (hn : n = g.shots.length) (hn63 : n ≤ maxLen) (hr : Lies w w.heap.size 6 A n (Gm.shotCells g.shots)) :
    Calls Try.prog 6 #[.agg (Im.cells g (.slice A n c) r), .int .i64 slot] w fun e w' => e = .returned (.bool true) ∧ Below w.heap.size w w' := by
  have P0 := Lib.hid (Box.made w 35 (Im.cells g (.slice A n c) r))
  have K0 := Lib.hid (one_below w (.cells (Im.cells g (.slice A n c) r) 35))
  have H0 := Lib.hid ((hr.below K0.out))
  have ct := fun X => Lib.hid (told7_any X)
  have cf := fun X => Lib.hid (few_any g A n c X hn63)
  have cm := fun X hX => Lib.hid (refstate_any g r A n c X hty hn hn63 hX)
  by_cases hfew : n ≤ 60
  rotate_left
  · rw [show decide (n ≤ 60) = false from decide_eq_false hfew] at cf
    clear hr hn hty cm hfew
    go_enter Try.func6, Try.ntmps6
    go_wp2_with (first | ((with_reducible refine im_load_game rfl rfl ?_); apply LoadIm.mk rfl; (focus (with_reducible exact P0.out)); dsimp only) | (go_at_call 12; ((with_reducible refine ((cf _).out).mono ?_); rintro e w1 ⟨rfl, hb⟩; have P1 := Lib.hid (P0.out.below hb P0.out.lt); have K1 := Lib.hid (K0.out.trans (hb.mono K0.out.size)); have H1 := Lib.hid (H0.out.below (hb.mono K0.out.size)); clear hb)) | (go_at_call 13; ((with_reducible refine ((ct _).out).mono ?_); rintro e w9 ⟨rfl, hb⟩; have K2 := Lib.hid (K1.out.trans (hb.mono K1.out.size)); clear hb)))
    go_ret
    exact ⟨rfl, K2.out⟩
  rw [show decide (n ≤ 60) = true from decide_eq_true hfew] at cf
  by_cases hok : Im.Ok g r
  rotate_left
  · have HNO := Lib.hid hok
    clear hr hn hty hfew hok
    go_enter Try.func6, Try.ntmps6
    go_wp2_with (first | ((with_reducible refine im_load_game rfl rfl ?_); apply LoadIm.mk rfl; (focus (with_reducible exact P0.out)); dsimp only) | (go_at_call 12; ((with_reducible refine ((cf _).out).mono ?_); rintro e w1 ⟨rfl, hb⟩; have P1 := Lib.hid (P0.out.below hb P0.out.lt); have K1 := Lib.hid (K0.out.trans (hb.mono K0.out.size)); have H1 := Lib.hid (H0.out.below (hb.mono K0.out.size)); clear hb)) | ((with_reducible refine im_load_state_g ?_ rfl ?_); (focus first | rfl | kernel_rfl | simp [Region.wanted, yielded]); apply LoadIm.mk rfl; (focus (with_reducible exact P1.out)); dsimp only) | (go_at_call 15; ((with_reducible refine ((cm _ (H1.out.wider K1.out.size)).out).mono ?_); rintro e w2 ⟨⟨v, rfl, hv⟩, hb⟩; obtain rfl : v = false := (by cases v <;> first | rfl | exact absurd (hv.1 rfl) HNO.out); have P2 := Lib.hid (P1.out.below hb P1.out.lt); have K2 := Lib.hid (K1.out.trans (hb.mono K1.out.size)); clear hb hv)) | (go_at_call 13; ((with_reducible refine ((ct _).out).mono ?_); rintro e w9 ⟨rfl, hb⟩; have K3 := Lib.hid (K2.out.trans (hb.mono K2.out.size)); clear hb)))
    go_ret
    exact ⟨rfl, K3.out⟩
  have HOK := Lib.hid hok
  have HD := Lib.hid hty.2.1
  have HTY := Lib.hid hty
  have HN := Lib.hid hn
  obtain ⟨k, hk8, hkk⟩ : ∃ k : Nat, k < 8 ∧ (k : Int) = slot % 8 := ⟨(slot % 8).toNat, by omega, by omega⟩
  have hq : wrap64 ((IntKind.u64.wrap slot).tmod 8) = (k : Int) := by
    rw [wrap_u64', Int.tmod_eq_emod_of_nonneg (by omega), IntWalk.wrap64_in _ (by omega)]
    omega
  have cp := fun X hX => Lib.hid (put_yes g r A n c X hok hty.2.1 hn hX)
  have co := fun X hX => Lib.hid (of_yes g r A n c X hok hty.2.1 hn hX)
  have cs := fun A' c' X hX => Lib.hid (sum_any (Im.put g r) (Im.put g r).length A' c' X rfl (by have := Im.put_le g r hok.1.2.2.1; unfold maxLen; omega) hX)
  have hon := hok.2.2 k hk8
  have hst := (hty.2.2.1 k hk8)
  obtain ⟨t, ht⟩ : ∃ t, t = g.ship k := ⟨_, rfl⟩
  rw [← ht] at hon hst
  have HT := Lib.hid ht
  have k8' : (k : Int) < 8 := by omega
  generalize (Im.put g r).length = m at *
  generalize Im.sum (Im.put g r) = q at *
  generalize Im.put g r = bs at *
  have HON := Lib.hid hon
  have HST := Lib.hid hst
  clear hr hn hty hfew hok hkk hs ht hon hst
  go_enter Try.func6, Try.ntmps6
  go_upto_region 5 with (first | ((with_reducible refine im_load_game rfl rfl ?_); apply LoadIm.mk rfl; (focus (with_reducible exact P0.out)); dsimp only) | (go_at_call 12; ((with_reducible refine ((cf _).out).mono ?_); rintro e w1 ⟨rfl, hb⟩; have P1 := Lib.hid (P0.out.below hb P0.out.lt); have K1 := Lib.hid (K0.out.trans (hb.mono K0.out.size)); have H1 := Lib.hid (H0.out.below (hb.mono K0.out.size)); clear hb)) | ((with_reducible refine im_load_state_g ?_ rfl ?_); (focus first | rfl | kernel_rfl | simp [Region.wanted, yielded]); apply LoadIm.mk rfl; (focus (with_reducible exact P1.out)); dsimp only) | (go_at_call 15; ((with_reducible refine ((cm _ (H1.out.wider K1.out.size)).out).mono ?_); rintro e w2 ⟨⟨v, rfl, hv⟩, hb⟩; obtain rfl : v = true := hv.2 HOK.out; have P2 := Lib.hid (P1.out.below hb P1.out.lt); have K2 := Lib.hid (K1.out.trans (hb.mono K1.out.size)); have H2 := Lib.hid (H1.out.below (hb.mono K1.out.size)); clear hb hv)) | ((with_reducible refine im_load_state rfl rfl ?_); apply LoadIm.mk rfl; (focus (with_reducible exact P2.out)); dsimp only) | (with_reducible refine alloc_state rfl rfl ?_) | ((with_reducible refine state_store_new rfl rfl rfl rfl Im.zero_size rfl ?_)))
  rw [hq]
  obtain ⟨W, hW⟩ : ∃ W, W = w2.alloc (.cells (Im.cells g (.slice A n c) r) 35) := ⟨_, rfl⟩
  obtain ⟨B, hBe⟩ : ∃ B, B = w2.heap.size := ⟨_, rfl⟩
  have T3 := Lib.hid (show Box W B 35 (Im.cells g (.slice A n c) r) by rw [hW, hBe]; exact Box.made _ _ _)
  have P3 := Lib.hid (show Box W w.heap.size 35 (Im.cells g (.slice A n c) r) by rw [hW]; exact P2.out.alloc _)
  have K3 := Lib.hid (show Below w.heap.size w W by rw [hW]; exact K2.out.alloc K2.out.size _)
  have H3 := Lib.hid (show Lies W w.heap.size 6 A n (Gm.shotCells g.shots) by rw [hW]; exact H2.out.below ((one_below _ _).mono K2.out.size))
  have hne := Lib.hid (show w.heap.size ≠ B ∧ w.heap.size ≤ B by have := P2.out.lt; omega)
  rw [← hBe, ← hW]
  have tc := T3.out.cell
  have tf := T3.out.free
  have q0 := (Im.cells_ship g (.slice A n c) r k 0 hk8 (by omega))
  have q1 := (Im.cells_ship g (.slice A n c) r k 1 hk8 (by omega))
  have q2 := (Im.cells_ship g (.slice A n c) r k 2 hk8 (by omega))
  have q3 := (Im.cells_ship g (.slice A n c) r k 3 hk8 (by omega))
  have q4 := (Im.cells_ship g (.slice A n c) r k 4 hk8 (by omega))
  have q5 := (Im.cells_ship g (.slice A n c) r k 5 hk8 (by omega))
  have q6 := (Im.cells_ship g (.slice A n c) r k 6 hk8 (by omega))
  rw [← HT.out] at q0 q1 q2 q3 q4 q5 q6
  have HTT := Lib.hid (show (⟨t.on, t.x, t.y, t.vx, t.vy, t.cool, t.score⟩ : Gm.Ship) = t from rfl)
  obtain ⟨on, x, y, vx, vy, cool, score⟩ := t
  simp only [Gm.Ship.cells, List.getElem?_cons_zero, List.getElem?_cons_succ, Nat.add_zero] at q0 q1 q2 q3 q4 q5 q6
  dsimp only at HON
  clear hW hBe P2 K2 H2 P1 K1 H1 P0 K0 H0 cf cm
  cases on
  · obtain ⟨u, hu⟩ : ∃ u : Gm.Ship, u = ⟨true, x, y, vx, vy, cool, score⟩ := ⟨_, rfl⟩
    have HU := Lib.hid (show (g.ship k).on ≠ u.on by rw [← HT.out, hu]; simp)
    have hut : Gm.tyShip u := by
      rw [hu]
      exact HST.out
    obtain ⟨g2, hg2⟩ : ∃ g2 : Gm.G, g2 = { g with ship := Gm.upd g.ship k u } := ⟨_, rfl⟩
    have HNO := Lib.hid (show ¬ Im.Ok g2 r from fun h => by
      have h1 := h.2.2 k hk8
      rw [hg2, show Gm.G.ship { g with ship := Gm.upd g.ship k u } k = u from Gm.upd_same _ _ _] at h1
      rw [← HT.out] at HU
      exact HU.out (HON.out.trans h1.symm))
    have HTY2 := Lib.hid (show Gm.ty g2 by
      rw [hg2]
      exact ⟨HTY.out.1, HTY.out.2.1, fun i hi => by
        show Gm.tyShip (Gm.upd g.ship k _ i)
        by_cases e : i = k
        · rw [e, Gm.upd_same]; exact hut
        · rw [Gm.upd_other _ _ e]; exact HTY.out.2.2.1 i hi, HTY.out.2.2.2⟩)
    have HS2 := Lib.hid (show g2.shots = g.shots by rw [hg2])
    obtain ⟨V, hV⟩ : ∃ V, V = W.setCell ⟨B, 2 + k * 7, none⟩ (.bool true) := ⟨_, rfl⟩
    have T4 := Lib.hid (show Box V B 35 (Im.cells g2 (.slice A n c) r) by
      rw [hV, hg2]
      have h5 := T3.out.put (2 + k * 7) (.bool true)
      rw [Im.cells_on g (.slice A n c) r k hk8 _ HT.out] at h5
      rw [hu]
      exact h5)
    have P4 := Lib.hid (show Box V w.heap.size 35 (Im.cells g (.slice A n c) r) by rw [hV]; exact P3.out.far (p := ⟨B, 2 + k * 7, none⟩) hne.out.1 (.bool true))
    have K4w := Lib.hid (show Below w.heap.size W V by rw [hV]; exact Below.setCell (Below.refl w.heap.size W) (p := ⟨B, 2 + k * 7, none⟩) hne.out.2 (.bool true))
    have K4 := Lib.hid (K3.out.trans K4w.out)
    have H4 := Lib.hid (H3.out.below K4w.out)
    try rw [hu] at hV
    skip
    have HV := Lib.hid hV
    have cn := fun X (hX : Lies X X.heap.size 6 A n (Gm.shotCells g.shots)) => Lib.hid (put_no g2 r A n c X HNO.out HTY2.out (by rw [HS2.out]; exact HN.out) hn63 (by rw [HS2.out]; exact hX))
    have cz := fun X (hX : Lies X X.heap.size 6 A n (Gm.shotCells g.shots)) => Lib.hid (of_no g2 r A n c X HNO.out HTY2.out (by rw [HS2.out]; exact HN.out) hn63 (by rw [HS2.out]; exact hX))
    clear hV hu hut hg2 hn63
    go_upto_region 8 with fail
    rw [← HV.out]
    clear tc tf q0 q1 q2 q3 q4 q5 q6 T3 P3 K3 H3
    go_wp2_with (first | ((with_reducible refine im_load_state rfl rfl ?_); apply LoadIm.mk rfl; (focus (with_reducible exact P4.out)); dsimp only) | ((with_reducible refine im_load_state rfl rfl ?_); apply LoadIm.mk rfl; (focus (with_reducible exact T5.out)); dsimp only) | (go_at_call 14; ((with_reducible refine ((cp _ (H4.out.wider K4.out.size)).out).mono ?_); rintro e w5 ⟨A5, c5, rfl, hL, hb⟩; have P5 := Lib.hid (P4.out.below hb P4.out.lt); have K5 := Lib.hid (K4.out.trans (hb.mono K4.out.size)); have T5 := Lib.hid (T4.out.below hb T4.out.lt); have H5 := Lib.hid (H4.out.below (hb.mono K4.out.size)); have L5 := Lib.hid hL; have M5 := Lib.hid (Nat.le_refl w5.heap.size); clear hb hL)) | (go_at_call 14; ((with_reducible refine ((cn _ (H5.out.wider K5.out.size)).out).mono ?_); rintro e w6 ⟨rfl, hb⟩; have P6 := Lib.hid (P5.out.below hb P5.out.lt); have K6 := Lib.hid (K5.out.trans (hb.mono K5.out.size)); have T6 := Lib.hid (T5.out.below hb T5.out.lt); have H6 := Lib.hid (H5.out.below (hb.mono K5.out.size)); have L6 := Lib.hid (L5.out.below (hb.mono (by first | exact Nat.le_refl _ | exact M5.out))); have M6 := Lib.hid hb.size; clear hb)) | (go_at_call 13; ((with_reducible refine ((ct _).out).mono ?_); rintro e w7 ⟨rfl, hb⟩; have P7 := Lib.hid (P6.out.below hb P6.out.lt); have K7 := Lib.hid (K6.out.trans (hb.mono K6.out.size)); have T7 := Lib.hid (T6.out.below hb T6.out.lt); have H7 := Lib.hid (H6.out.below (hb.mono K6.out.size)); have L7 := Lib.hid (L6.out.below (hb.mono (by first | exact Nat.le_refl _ | exact M6.out))); have M7 := Lib.hid (Nat.le_trans M6.out hb.size); clear hb)) | ((with_reducible refine im_load_state_g ?_ rfl ?_); (focus first | rfl | kernel_rfl | simp [Region.wanted, yielded]); apply LoadIm.mk rfl; (focus (with_reducible exact T7.out)); dsimp only) | (go_at_call 22; ((with_reducible refine ((cz _ (H7.out.wider K7.out.size)).out).mono ?_); rintro e w8 ⟨rfl, hb⟩; have P8 := Lib.hid (P7.out.below hb P7.out.lt); have K8 := Lib.hid (K7.out.trans (hb.mono K7.out.size)); have T8 := Lib.hid (T7.out.below hb T7.out.lt); have H8 := Lib.hid (H7.out.below (hb.mono K7.out.size)); have L8 := Lib.hid (L7.out.below (hb.mono (by first | exact Nat.le_refl _ | exact M7.out))); have M8 := Lib.hid (Nat.le_trans M7.out hb.size); clear hb)) | ((with_reducible refine im_load_state_g ?_ rfl ?_); (focus first | rfl | kernel_rfl | simp [Region.wanted, yielded]); apply LoadIm.mk rfl; (focus (with_reducible exact P8.out)); dsimp only) | (go_at_call 22; ((with_reducible refine ((co _ (H8.out.wider K8.out.size)).out).mono ?_); rintro e w9 ⟨rfl, hb⟩; have P9 := Lib.hid (P8.out.below hb P8.out.lt); have K9 := Lib.hid (K8.out.trans (hb.mono K8.out.size)); have T9 := Lib.hid (T8.out.below hb T8.out.lt); have H9 := Lib.hid (H8.out.below (hb.mono K8.out.size)); have L9 := Lib.hid (L8.out.below (hb.mono (by first | exact Nat.le_refl _ | exact M8.out))); have M9 := Lib.hid (Nat.le_trans M8.out hb.size); clear hb)) | (go_at_call 20; ((with_reducible refine ((cs A5 c5 _ (L9.out.wider M9.out)).out).mono ?_); rintro e w10 ⟨rfl, hb⟩; have K10 := Lib.hid (K9.out.trans (hb.mono K9.out.size)); clear hb)))
    go_ret
    exact ⟨ret_bool (by simp), K10.out⟩
  · obtain ⟨u, hu⟩ : ∃ u : Gm.Ship, u = ⟨false, 0, 0, 0, 0, 0, 0⟩ := ⟨_, rfl⟩
    have HU := Lib.hid (show (g.ship k).on ≠ u.on by rw [← HT.out, hu]; simp)
    have hut : Gm.tyShip u := by
      rw [hu]
      unfold Gm.tyShip Gm.i32 Gm.i64; dsimp only; omega
    obtain ⟨g2, hg2⟩ : ∃ g2 : Gm.G, g2 = { g with ship := Gm.upd g.ship k u } := ⟨_, rfl⟩
    have HNO := Lib.hid (show ¬ Im.Ok g2 r from fun h => by
      have h1 := h.2.2 k hk8
      rw [hg2, show Gm.G.ship { g with ship := Gm.upd g.ship k u } k = u from Gm.upd_same _ _ _] at h1
      rw [← HT.out] at HU
      exact HU.out (HON.out.trans h1.symm))
    have HTY2 := Lib.hid (show Gm.ty g2 by
      rw [hg2]
      exact ⟨HTY.out.1, HTY.out.2.1, fun i hi => by
        show Gm.tyShip (Gm.upd g.ship k _ i)
        by_cases e : i = k
        · rw [e, Gm.upd_same]; exact hut
        · rw [Gm.upd_other _ _ e]; exact HTY.out.2.2.1 i hi, HTY.out.2.2.2⟩)
    have HS2 := Lib.hid (show g2.shots = g.shots by rw [hg2])
    obtain ⟨V, hV⟩ : ∃ V, V = stored W B k u := ⟨_, rfl⟩
    have T4 := Lib.hid (show Box V B 35 (Im.cells g2 (.slice A n c) r) by
      rw [hV, hg2]
      exact Im.cells_upd g (.slice A n c) r k hk8 u W B T3.out)
    have P4 := Lib.hid (show Box V w.heap.size 35 (Im.cells g (.slice A n c) r) by rw [hV]; exact stored_far P3.out hne.out.1 u)
    have K4w := Lib.hid (show Below w.heap.size W V by rw [hV]; exact stored_below (Below.refl w.heap.size W) hne.out.2 u)
    have K4 := Lib.hid (K3.out.trans K4w.out)
    have H4 := Lib.hid (H3.out.below K4w.out)
    try rw [hu] at hV
    simp only [stored] at hV
    have HV := Lib.hid hV
    have cn := fun X (hX : Lies X X.heap.size 6 A n (Gm.shotCells g.shots)) => Lib.hid (put_no g2 r A n c X HNO.out HTY2.out (by rw [HS2.out]; exact HN.out) hn63 (by rw [HS2.out]; exact hX))
    have cz := fun X (hX : Lies X X.heap.size 6 A n (Gm.shotCells g.shots)) => Lib.hid (of_no g2 r A n c X HNO.out HTY2.out (by rw [HS2.out]; exact HN.out) hn63 (by rw [HS2.out]; exact hX))
    clear hV hu hut hg2 hn63
    go_upto_region 8 with fail
    rw [← HV.out]
    clear tc tf q0 q1 q2 q3 q4 q5 q6 T3 P3 K3 H3
    go_wp2_with (first | ((with_reducible refine im_load_state rfl rfl ?_); apply LoadIm.mk rfl; (focus (with_reducible exact P4.out)); dsimp only) | ((with_reducible refine im_load_state rfl rfl ?_); apply LoadIm.mk rfl; (focus (with_reducible exact T5.out)); dsimp only) | (go_at_call 14; ((with_reducible refine ((cp _ (H4.out.wider K4.out.size)).out).mono ?_); rintro e w5 ⟨A5, c5, rfl, hL, hb⟩; have P5 := Lib.hid (P4.out.below hb P4.out.lt); have K5 := Lib.hid (K4.out.trans (hb.mono K4.out.size)); have T5 := Lib.hid (T4.out.below hb T4.out.lt); have H5 := Lib.hid (H4.out.below (hb.mono K4.out.size)); have L5 := Lib.hid hL; have M5 := Lib.hid (Nat.le_refl w5.heap.size); clear hb hL)) | (go_at_call 14; ((with_reducible refine ((cn _ (H5.out.wider K5.out.size)).out).mono ?_); rintro e w6 ⟨rfl, hb⟩; have P6 := Lib.hid (P5.out.below hb P5.out.lt); have K6 := Lib.hid (K5.out.trans (hb.mono K5.out.size)); have T6 := Lib.hid (T5.out.below hb T5.out.lt); have H6 := Lib.hid (H5.out.below (hb.mono K5.out.size)); have L6 := Lib.hid (L5.out.below (hb.mono (by first | exact Nat.le_refl _ | exact M5.out))); have M6 := Lib.hid hb.size; clear hb)) | (go_at_call 13; ((with_reducible refine ((ct _).out).mono ?_); rintro e w7 ⟨rfl, hb⟩; have P7 := Lib.hid (P6.out.below hb P6.out.lt); have K7 := Lib.hid (K6.out.trans (hb.mono K6.out.size)); have T7 := Lib.hid (T6.out.below hb T6.out.lt); have H7 := Lib.hid (H6.out.below (hb.mono K6.out.size)); have L7 := Lib.hid (L6.out.below (hb.mono (by first | exact Nat.le_refl _ | exact M6.out))); have M7 := Lib.hid (Nat.le_trans M6.out hb.size); clear hb)) | ((with_reducible refine im_load_state_g ?_ rfl ?_); (focus first | rfl | kernel_rfl | simp [Region.wanted, yielded]); apply LoadIm.mk rfl; (focus (with_reducible exact T7.out)); dsimp only) | (go_at_call 22; ((with_reducible refine ((cz _ (H7.out.wider K7.out.size)).out).mono ?_); rintro e w8 ⟨rfl, hb⟩; have P8 := Lib.hid (P7.out.below hb P7.out.lt); have K8 := Lib.hid (K7.out.trans (hb.mono K7.out.size)); have T8 := Lib.hid (T7.out.below hb T7.out.lt); have H8 := Lib.hid (H7.out.below (hb.mono K7.out.size)); have L8 := Lib.hid (L7.out.below (hb.mono (by first | exact Nat.le_refl _ | exact M7.out))); have M8 := Lib.hid (Nat.le_trans M7.out hb.size); clear hb)) | ((with_reducible refine im_load_state_g ?_ rfl ?_); (focus first | rfl | kernel_rfl | simp [Region.wanted, yielded]); apply LoadIm.mk rfl; (focus (with_reducible exact P8.out)); dsimp only) | (go_at_call 22; ((with_reducible refine ((co _ (H8.out.wider K8.out.size)).out).mono ?_); rintro e w9 ⟨rfl, hb⟩; have P9 := Lib.hid (P8.out.below hb P8.out.lt); have K9 := Lib.hid (K8.out.trans (hb.mono K8.out.size)); have T9 := Lib.hid (T8.out.below hb T8.out.lt); have H9 := Lib.hid (H8.out.below (hb.mono K8.out.size)); have L9 := Lib.hid (L8.out.below (hb.mono (by first | exact Nat.le_refl _ | exact M8.out))); have M9 := Lib.hid (Nat.le_trans M8.out hb.size); clear hb)) | (go_at_call 20; ((with_reducible refine ((cs A5 c5 _ (L9.out.wider M9.out)).out).mono ?_); rintro e w10 ⟨rfl, hb⟩; have K10 := Lib.hid (K9.out.trans (hb.mono K9.out.size)); clear hb)))
    go_ret
    exact ⟨ret_bool (by simp), K10.out⟩
end Go.Proofs.Ytghomofakpjglaa
