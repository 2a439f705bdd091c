/-
EntryBack: an entry comes back from its bytes; cut off, or with a byte behind, or turned.
-/
import Derived.Test.YtbihnmingedgfaaEv
namespace En
open Go
theorem xor_nat (a b : Nat) (ha : a < 256) (hb : b < 256) : bits .xor .u8 (a : Int) (b : Int) = ((a ^^^ b : Nat) : Int) := by
  have hx : a ^^^ b < 2 ^ 8 := Nat.xor_lt_two_pow (by omega) (by omega)
  show IntKind.u8.wrap ((BitVec.ofInt 8 (a : Int) ^^^ BitVec.ofInt 8 (b : Int)).toNat : Int) = _
  rw [BitVec.toNat_xor, BitVec.toNat_ofInt, BitVec.toNat_ofInt, IntKind.wrap_u8]
  rw [show ((a : Int) % ((2 ^ 8 : Nat) : Int)).toNat = a from by omega, show ((b : Int) % ((2 ^ 8 : Nat) : Int)).toNat = b from by omega]
  omega
theorem xor_turn {x c : Int} (hx : 0 ≤ x ∧ x ≤ 255) (hc : 0 ≤ c ∧ c ≤ 255) : ∃ v : Int, bits .xor .u8 x c = v ∧ (0 ≤ v ∧ v ≤ 255) ∧ (v = x ↔ c = 0) := by
  obtain ⟨a, rfl⟩ := Int.eq_ofNat_of_zero_le hx.1
  obtain ⟨b, rfl⟩ := Int.eq_ofNat_of_zero_le hc.1
  have h := xor_nat a b (by omega) (by omega)
  have hlt : a ^^^ b < 2 ^ 8 := Nat.xor_lt_two_pow (by omega) (by omega)
  refine ⟨_, h, by omega, ⟨fun e => ?_, fun e => ?_⟩⟩
  · have e' : a ^^^ b = a := by exact_mod_cast e
    have e2 : a ^^^ (a ^^^ b) = a ^^^ a := by rw [e']
    rw [← Nat.xor_assoc, Nat.xor_self, Nat.zero_xor] at e2
    omega
  · have : b = 0 := by omega
    subst this
    rw [Nat.xor_zero]
theorem set_bytes {l : List Int} (h : Im.IsBytes l) (k : Nat) {v : Int} (hv : 0 ≤ v ∧ v ≤ 255) : Im.IsBytes (l.set k v) := fun x hx => by
  rcases List.mem_or_eq_of_mem_set hx with hx | rfl
  · exact h x hx
  · exact hv
theorem set_same_iff {l : List Int} {k : Nat} (hk : k < l.length) (v : Int) : l.set k v = l ↔ v = l[k] := by
  constructor
  · intro h
    have := congrArg (fun m => m[k]?) h
    simp [hk] at this
    exact this
  · rintro rfl
    exact List.set_getElem_self hk
/-- What is got out of other bytes is another entry. -/
theorem other {e y : E} (hok : Ok e) (hty : Ty e) {t : List Int} (hB : Im.IsBytes t) (h : get t = some y) : Like y e ↔ t = put e := by
  obtain ⟨h1, h2, h3⟩ := get_some hB h
  constructor
  · intro hl; rw [← h3]; exact put_like hl
  · intro ht
    obtain ⟨e', h4, h5⟩ := get_put hok hty
    rw [← ht, h] at h4
    injection h4 with h4
    subst h4
    exact ⟨h5.1.symm, h5.2.1.symm, fun i hi => (h5.2.2 i hi).symm⟩
end En
namespace Go.Proofs.Ytbihnmingedgfaa
open Go.RowKit Go.Shelf
set_option linter.unusedVariables false
set_option linter.unusedSimpArgs false

theorem u8_size : (Try.prog.info? 5).map (·.size) = some 1 := by kernel_rfl
theorem below_grown {B : Nat} {w0 w w' : World} {row : Option Nat} (h : Below B w0 w) (hg : w.grownBy w' row) (hr : ∀ r, row = some r → B ≤ r) (hB : B ≤ w0.heap.size) : Below B w0 w' :=
  ⟨hg.os.trans h.os, hg.tape.trans h.tape, hg.output.trans h.output, Nat.le_trans h.size hg.size, fun i hi => (hg.block i (Nat.lt_of_lt_of_le hi (Nat.le_trans hB h.size)) (fun e => by have := hr i e.symm; omega)).trans (h.block i hi)⟩
theorem Lies.grown {w w' : World} {B size n : Nat} {A : Option Addr} {xs : List Value} {row : Option Nat} (h : Lies w B size A n xs) (hg : w.grownBy w' row) (hr : ∀ r, row = some r → B ≤ r) (hB : B ≤ w.heap.size) : Lies w' B size A n xs :=
  h.stays fun b hb => hg.block b (Nat.lt_of_lt_of_le hb hB) (fun e => by have := hr b e.symm; omega)

theorem Lies.take1 {w : World} {B n : Nat} {A : Option Addr} {bs : List Int} (h : Lies w B 1 A n (Im.u8s bs)) (k : Nat) (hk : k ≤ n) : Lies w B 1 A k (Im.u8s (bs.take k)) := by
  have hl := h.len
  rw [Im.u8s_len] at hl
  refine ⟨by rw [Im.u8s_len, List.length_take]; omega, fun h0 => h.start (by omega), fun ad e h0 j u hu => h.cell ad e (by omega) j u ?_⟩
  have e1 : Im.u8s (bs.take k) = (Im.u8s bs).take k := by unfold Im.u8s; rw [List.map_take]
  rw [e1, List.getElem?_take] at hu
  split at hu
  · exact hu
  · cases hu
theorem own_box {w : World} {base m c : Nat} {A : Option Addr} {bs : List Int} (h : w.ownsRow base 5 1 (.slice A m c) m (Im.u8s bs)) (hm : m ≠ 0) : ∃ g cur, A = some ⟨g, 0, none⟩ ∧ base ≤ g ∧ m ≤ c ∧ Box w g 5 cur ∧ ∀ (j : Nat) (x : Int), bs[j]? = some x → cur[j]? = some (Value.int .u8 x) := by
  obtain ⟨hl, ⟨_, h0⟩ | ⟨g, cap, cur, hv, hbg, hg, hnc, _, _, htake⟩⟩ := h
  · exact absurd h0 hm
  · injection hv with hA _ hc
    subst hc
    refine ⟨g, cur, hA, hbg, hnc, ⟨hg⟩, fun j x hj => ?_⟩
    have hlt : j < bs.length := (List.getElem?_eq_some_iff.1 hj).1
    have h1 : (Im.u8s bs)[j]? = some (Value.int .u8 x) := by unfold Im.u8s; rw [List.getElem?_map, hj]; rfl
    rw [← htake, List.getElem?_take] at h1
    split at h1
    · simpa using h1
    · cases h1
theorem Box.lies {w : World} {g m : Nat} {cur : Array Value} {bs : List Int} (h : Box w g 5 cur) (hm : bs.length = m) (hc : ∀ (j : Nat) (x : Int), bs[j]? = some x → cur[j]? = some (Value.int .u8 x)) : Lies w w.heap.size 1 (some ⟨g, 0, none⟩) m (Im.u8s bs) := by
  refine ⟨by rw [Im.u8s_len]; omega, fun _ => ⟨_, rfl, h.lt⟩, fun ad e h0 j u hu => ?_⟩
  injection e with e
  subst e
  have hadd : (⟨g, 0, none⟩ : Addr).add j = ⟨g, j, none⟩ := by unfold Addr.add; split <;> simp_all
  unfold Im.u8s at hu
  rw [List.getElem?_map] at hu
  cases hj : bs[j]? with
  | none => rw [hj] at hu; cases hu
  | some x =>
    rw [hj] at hu
    injection hu with hu
    subst hu
    rw [hadd, h.cell j]
    exact hc j x hj
theorem own_ge {w : World} {base : Nat} {e : TypeId} {size n : Nat} {v : Value} {xs : List Value} (h : w.ownsRow base e size v n xs) : ∀ r, v.ownBlock = some r → base ≤ r := fun r hr => by
  obtain ⟨_, ⟨rfl, _⟩ | ⟨g, cap, cur, rfl, hbg, _⟩⟩ := h
  · cases hr
  · have e' : g = r := by injection hr
    omega
theorem Box.over {w w' : World} {g B : Nat} {t : TypeId} {cs : Array Value} {row : Option Nat} (h : Box w g t cs) (hg : w.grownBy w' row) (hr : ∀ r, row = some r → B ≤ r) (hlt : g < B) : Box w' g t cs :=
  h.grown hg (fun e => by have := hr g e; omega)

set_option maxRecDepth 100000 in
set_option maxHeartbeats 4000000 in
theorem back9_law (q : En.S) (at0 cb : Int) (w : World) (hty : En.Ty q.e) (hn63 : q.e.evs.length ≤ maxLen) (hr : Lies w w.heap.size 4 q.adr q.e.evs.length (En.evCells q.e.evs)) (hat : -9223372036854775808 ≤ at0 ∧ at0 ≤ 9223372036854775807) (hcb : 0 ≤ cb ∧ cb ≤ 255) :
    Calls Try.prog 10 #[.agg (En.cells q.e q.sl), .int .i64 at0, .int .u8 cb] w fun e w' => e = .returned (.bool true) ∧ Below w.heap.size w w' := by
  obtain ⟨e, A, c⟩ := q
  dsimp only [En.S.sl] at *
  have P0 := Lib.hid (Box.made w 72 (En.cells e (.slice A e.evs.length c)))
  have K0 := Lib.hid (one_below w (.cells (En.cells e (.slice A e.evs.length c)) 72))
  have hr0 := (hr.below K0.out).wider K0.out.size
  have ct := fun X => Lib.hid (told9_any X)
  by_cases hok : En.Ok e
  · have cp := Lib.hid (enput_yes e A e.evs.length c _ hok hty.ins rfl hr0)
    have cg0 := fun A' c' X hc hL => Lib.hid (enget_yes e hok hty A' (En.put e).length c' X rfl hc hL)
    have cg1 := fun A' c' X hc hL => Lib.hid (enget_no (En.put e ++ [cb]) (En.get_app hok hty (by simp)) A' ((En.put e).length + 1) c' X (by simp) hc ((En.put_bytes e).app fun x hx => by obtain rfl := List.mem_singleton.1 hx; exact hcb) hL)
    have cg2 := fun k (hk : k < (En.put e).length) A' c' X hc hL => Lib.hid (enget_no ((En.put e).take k) (En.get_cut hok hty hk) A' k c' X (by rw [List.length_take]; omega) hc ((En.put_bytes e).take k) hL)
    have hlen := En.put_len e
    have hle := En.put_le hok.count
    have hoth := fun t y (hB : Im.IsBytes t) h => En.other hok hty (t := t) (y := y) hB h
    have hyes := En.get_put hok hty
    have hby := En.put_bytes e
    have H0 := Lib.hid (show Lies w w.heap.size 4 A e.evs.length (En.evCells e.evs) from hr)
    generalize En.put e = bs at *
    obtain ⟨m, hm⟩ : ∃ m, m = bs.length := ⟨_, rfl⟩
    rw [← hm] at cp cg0 cg1 cg2 hlen hle
    have HM := Lib.hid hm
    have HOTH := Lib.hid hoth
    have HYES := Lib.hid hyes
    have HBY := Lib.hid hby
    have h6 : 6 ≤ m := by omega
    have HN := Lib.hid hn63
    clear hr hr0 hty hok hn63 hlen hm hoth hyes hby
    go_enter Try.func10, Try.ntmps10
    go_upto_region 5 with (first | ((with_reducible refine en_load rfl rfl ?_); apply LoadEn.mk rfl; (focus (with_reducible exact P0.out)); dsimp only) | (with_reducible refine alloc_en rfl rfl ?_) | (with_reducible refine en_store_new rfl rfl rfl rfl En.zeroC_size rfl ?_) | (go_at_call 42; ((with_reducible refine (cp.out).mono ?_); rintro r w1 ⟨A1, c1, rfl, hc1, hL1, _, hb⟩; have P1 := Lib.hid (P0.out.below hb P0.out.lt); have K1 := Lib.hid (K0.out.trans (hb.mono K0.out.size)); have L1 := Lib.hid hL1; have C1 := Lib.hid hc1; have g0 := cg0 A1 c1 _ hc1 hL1; clear hb cp cg0 hc1 hL1)) | (go_at_call 45; ((with_reducible refine (g0.out).mono ?_); rintro r w2 ⟨e1, S1, hlk, hgt, rfl, hE, hb⟩; have P2 := Lib.hid ((P1.out.below hb P1.out.lt).alloc (.cells (En.cells e1 (.slice (some ⟨S1, 0, none⟩) e1.evs.length e1.evs.length)) 72)); have K2 := Lib.hid ((K1.out.trans (hb.mono K1.out.size)).alloc (Nat.le_trans K1.out.size hb.size) (.cells (En.cells e1 (.slice (some ⟨S1, 0, none⟩) e1.evs.length e1.evs.length)) 72)); have G2 := Lib.hid (Box.made w2 72 (En.cells e1 (.slice (some ⟨S1, 0, none⟩) e1.evs.length e1.evs.length))); have E2 := Lib.hid (hE.alloc (.cells (En.cells e1 (.slice (some ⟨S1, 0, none⟩) e1.evs.length e1.evs.length)) 72)); have L2 := Lib.hid (((L1.out.below hb).wider hb.size).below (one_below w2 (.cells (En.cells e1 (.slice (some ⟨S1, 0, none⟩) e1.evs.length e1.evs.length)) 72))); have l2 := Nat.lt_of_lt_of_le P1.out.lt hb.size; have s2 := hE.lt; have HLK := Lib.hid hlk; have F1 := Lib.hid (show e1.evs.length ≤ maxLen by rw [← hlk.2.1]; exact HN.out); clear hb g0 hE hgt hlk)))
    generalize hV2 : w2.alloc (.cells (En.cells e1 (.slice (some ⟨S1, 0, none⟩) e1.evs.length e1.evs.length)) 72) = V2 at *
    have VS := Lib.hid (show V2.heap.size = w2.heap.size + 1 by rw [← hV2]; simp)
    obtain ⟨i0, hi0, hz0, hz1, hz2⟩ := u8_parts
    have hI := Lib.hid hi0
    have hZ := Lib.hid hz0
    have hS := Lib.hid hz1
    have hY := Lib.hid hz2
    have own0 := Lib.hid (World.ownsRow_lit (base := V2.heap.size) (e := 5) (size := 1) V2 #[] 0 (Nat.le_refl _) (Nat.zero_le _) rfl)
    have M2 := Lib.hid ((L2.out.below ((one_below V2 (.cells #[] 5)).mono (by have := VS.out; omega))).wider (show w2.heap.size ≤ (V2.alloc (.cells #[] 5)).heap.size by have := VS.out; simp; omega))
    have csm := fun X hX1 hX2 => Lib.hid (show Calls Try.prog 48 #[.agg (En.cells e1 (.slice (some ⟨S1, 0, none⟩) e1.evs.length e1.evs.length)), .agg (En.cells e (.slice A e.evs.length c))] X fun r w' => r = .returned (.bool true) ∧ Below X.heap.size X w' by
      have := ensame_any ⟨e1, some ⟨S1, 0, none⟩, e1.evs.length⟩ ⟨e, A, c⟩ X F1.out HN.out hX1 hX2
      rw [En.likeB_yes HLK.out.symm] at this
      exact this)
    clear hi0 hz0 hz1 hz2 hV2
    go_upto_region 6 with (first | ((with_reducible refine append_gate (x := .tmp 35) (y := .tmp 36) (t := 54) (e := 5) (size := 1) (bytes := 1) rfl rfl Try.underlying54 hI.out hZ.out hS.out hY.out rfl (by decide) ?_); refine Appends.mk (base := V2.heap.size) (n := 0) (xs := []) rfl own0.out M2.out (Im.u8s_one _) (by unfold maxLen; omega) (by have := VS.out; omega) (by simp) ?_; intro A3 c3 w3 own3 hg3; simp only [Nat.zero_add, List.nil_append] at own3 ⊢; have OW3 := Lib.hid own3; have P3 := Lib.hid ((P2.out.alloc _).over hg3 (B := V2.heap.size) (own_ge own0.out) (by have := VS.out; omega)); have G3 := Lib.hid ((G2.out.alloc _).over hg3 (B := V2.heap.size) (own_ge own0.out) (by have := VS.out; omega)); have E3 := Lib.hid ((E2.out.alloc _).over hg3 (B := V2.heap.size) (own_ge own0.out) (by have := VS.out; omega)); have L3 := Lib.hid ((L2.out.below ((one_below V2 (.cells #[] 5)).mono (by have := VS.out; omega))).grown hg3 (fun r hr => Nat.le_trans (by have := VS.out; omega) (own_ge own0.out r hr)) (by have := VS.out; simp; omega)); have K3 := Lib.hid (below_grown (K2.out.alloc K2.out.size _) hg3 (fun r hr => Nat.le_trans (by have := VS.out; omega) (own_ge own0.out r hr)) (Nat.le_refl _)); have sz3 : V2.heap.size ≤ w3.heap.size := Nat.le_trans (by simp) hg3.size; clear own3 hg3) | ((with_reducible refine append_gate (x := .tmp 37) (y := .tmp 39) (t := 54) (e := 5) (size := 1) (bytes := 1) rfl rfl Try.underlying54 hI.out hZ.out hS.out hY.out rfl (by decide) ?_); refine Appends.mk (base := V2.heap.size) (n := m) (xs := Im.u8s bs) (m := 1) (news := Im.u8s [cb]) rfl (OW3.out.alloc _) (lies_byte w3 cb) (Im.u8s_one _) (by unfold maxLen; omega) (by have := VS.out; omega) (by have := VS.out; simp; omega) ?_; intro A4 c4 w4 own4 hg4; rw [← Im.u8s_append] at own4; have P4 := Lib.hid ((P3.out.alloc _).over hg4 (B := V2.heap.size) (own_ge OW3.out) (by have := VS.out; omega)); have G4 := Lib.hid ((G3.out.alloc _).over hg4 (B := V2.heap.size) (own_ge OW3.out) (by have := VS.out; omega)); have E4 := Lib.hid ((E3.out.alloc _).over hg4 (B := V2.heap.size) (own_ge OW3.out) (by have := VS.out; omega)); have L4 := Lib.hid ((L3.out.below ((one_below w3 _).mono (by have := VS.out; omega))).grown hg4 (fun r hr => Nat.le_trans (by have := VS.out; omega) (own_ge OW3.out r hr)) (by have := VS.out; simp; omega)); have K4 := Lib.hid (below_grown (K3.out.alloc K3.out.size _) hg4 (fun r hr => Nat.le_trans (by have := VS.out; omega) (own_ge OW3.out r hr)) (Nat.le_refl _)); have sz4 : w3.heap.size ≤ w4.heap.size := Nat.le_trans (by simp) hg4.size; have g4 := cg1 A4 c4 w4 (own_cap own4) (Lies.owned own4); clear own4 hg4) | (with_reducible refine alloc_en rfl rfl ?_) | (with_reducible refine en_store_new rfl rfl rfl rfl En.zeroC_size rfl ?_) | (go_at_call 45; ((with_reducible refine (g4.out).mono ?_); rintro r w5 ⟨rfl, hb⟩; have P5 := Lib.hid ((P4.out.below hb P4.out.lt).alloc (.cells (En.cells ⟨0, [], En.in0⟩ (.slice none 0 0)) 72)); have K5 := Lib.hid ((K4.out.trans (hb.mono K4.out.size)).alloc (Nat.le_trans K4.out.size hb.size) (.cells (En.cells ⟨0, [], En.in0⟩ (.slice none 0 0)) 72)); have G5 := Lib.hid ((G4.out.below hb G4.out.lt).alloc (.cells (En.cells ⟨0, [], En.in0⟩ (.slice none 0 0)) 72)); have E5 := Lib.hid ((E4.out.below hb E4.out.lt).alloc (.cells (En.cells ⟨0, [], En.in0⟩ (.slice none 0 0)) 72)); have L5 := Lib.hid (L4.out.below ((hb.mono (by have := VS.out; omega)).trans ((one_below w5 (.cells (En.cells ⟨0, [], En.in0⟩ (.slice none 0 0)) 72)).mono (Nat.le_trans (by have := VS.out; omega) hb.size)))); have sz5 := hb.size; clear hb g4)))
    have hm6 : ¬ (m : Int) < 6 := by omega
    have c5 := csm _ (Lies.boxed E5.out (En.evCells_len _)) ((H0.out.below K5.out).wider K5.out.size)
    have hwm : IntKind.u64.wrap (m : Int) = m := by rw [IntKind.wrap_u64]; omega
    have u0 : 0 ≤ IntKind.u64.wrap at0 := by rw [IntKind.wrap_u64]; omega
    have u1 : IntKind.u64.wrap at0 ≤ 18446744073709551615 := by rw [IntKind.wrap_u64]; omega
    go_upto_region 9 with (first | ((with_reducible refine en_load_g ?_ rfl ?_); (focus first | rfl | kernel_rfl | simp [Region.wanted, yielded]); apply LoadEn.mk rfl; (focus first | (with_reducible exact G5.out) | (with_reducible exact P5.out)); dsimp only) | (go_at_call 48; ((with_reducible refine (c5.out).mono ?_); rintro r w6 ⟨rfl, hb⟩; have P6 := Lib.hid (P5.out.below hb P5.out.lt); have K6 := Lib.hid (K5.out.trans (hb.mono K5.out.size)); have sz6 := hb.size; have L6 := Lib.hid (L5.out.below (hb.mono (by have := VS.out; simp at sz5 ⊢; omega))); clear hb c5)))
    obtain ⟨kk, hkk, hkm⟩ : ∃ kk : Nat, RowKit.wrap64 (IntKind.u64.wrap at0 % (m : Int)) = kk ∧ kk < m := by
      have h0 : 0 ≤ IntKind.u64.wrap at0 % (m : Int) := Int.emod_nonneg _ (by omega)
      have h1 : IntKind.u64.wrap at0 % (m : Int) < m := Int.emod_lt_of_pos _ (by omega)
      refine ⟨(IntKind.u64.wrap at0 % (m : Int)).toNat, ?_, by omega⟩
      rw [IntWalk.wrap64_in _ (by omega)]; omega
    rw [hkk]
    have hsl := fun W => run_slice_to (P := Try.prog) (t := 54) A1 m c1 kk Try.underlying54 u8_size (by have := C1.out; omega) W
    have g6 := cg2 kk hkm A1 c1 w6 (by have := C1.out; omega) ((L6.out.take1 kk (by omega)).wider (by have := VS.out; simp at sz6 sz5 ⊢; omega))
    have hkl : kk < bs.length := by have := HM.out; omega
    have hbk := HBY.out bs[kk] (List.getElem_mem hkl)
    have hset := fun v => En.set_same_iff hkl v
    have hat' : bs[kk]? = some bs[kk] := List.getElem?_eq_getElem hkl
    generalize bs[kk] = xk at hbk hset hat'
    obtain ⟨v, hxor, hv, hvc⟩ := En.xor_turn hbk hcb
    have HVC := Lib.hid ((hset v).trans hvc)
    have HAT := Lib.hid hat'
    have HTB := Lib.hid (En.set_bytes HBY.out kk hv)
    have HTL := Lib.hid (show (bs.set kk v).length = m by rw [List.length_set]; exact HM.out.symm)
    clear hkk hvc u0 u1 hwm hm6 hset hat' hbk
    go_upto_region 10 with (first | (with_reducible refine alloc_en rfl rfl ?_) | (with_reducible refine en_store_new rfl rfl rfl rfl En.zeroC_size rfl ?_) | (go_at_call 45; ((with_reducible refine (g6.out).mono ?_); rintro r w7 ⟨rfl, hb⟩; have P7 := Lib.hid ((P6.out.below hb P6.out.lt).alloc (.cells (En.cells ⟨0, [], En.in0⟩ (.slice none 0 0)) 72)); have K7 := Lib.hid ((K6.out.trans (hb.mono K6.out.size)).alloc (Nat.le_trans K6.out.size hb.size) (.cells (En.cells ⟨0, [], En.in0⟩ (.slice none 0 0)) 72)); have sz7 := hb.size; have L7 := Lib.hid ((L6.out.below (hb.mono (by have := VS.out; simp at sz6 sz5 ⊢; omega))).below ((one_below w7 (.cells (En.cells ⟨0, [], En.in0⟩ (.slice none 0 0)) 72)).mono (by have := VS.out; simp at sz6 sz5 ⊢; omega))); clear hb g6)))
    generalize hV7 : w7.alloc (.cells (En.cells ⟨0, [], En.in0⟩ (.slice none 0 0)) 72) = V7 at *
    have VS7 := Lib.hid (show V7.heap.size = w7.heap.size + 1 by rw [← hV7]; simp)
    have own7 := Lib.hid (World.ownsRow_lit (base := V7.heap.size) (e := 5) (size := 1) V7 #[] 0 (Nat.le_refl _) (Nat.zero_le _) rfl)
    have BIG := Lib.hid (show w2.heap.size ≤ V7.heap.size by have := VS.out; have := VS7.out; simp at sz6; omega)
    have M7 := Lib.hid ((L7.out.below ((one_below V7 (.cells #[] 5)).mono BIG.out)).wider (show w2.heap.size ≤ (V7.alloc (.cells #[] 5)).heap.size by have := BIG.out; simp; omega))
    clear hV7
    go_upto_region 12 with ((with_reducible refine append_gate (x := .tmp 75) (y := .tmp 76) (t := 54) (e := 5) (size := 1) (bytes := 1) rfl rfl Try.underlying54 hI.out hZ.out hS.out hY.out rfl (by decide) ?_); refine Appends.mk (base := V7.heap.size) (n := 0) (xs := []) rfl own7.out M7.out (Im.u8s_one _) (by unfold maxLen; omega) (by omega) (by simp) ?_; intro A8 c8 w8 own8 hg8; simp only [Nat.zero_add, List.nil_append] at own8 ⊢; have P8 := Lib.hid ((P7.out.alloc _).over hg8 (B := V7.heap.size) (own_ge own7.out) (by have := BIG.out; omega)); have K8 := Lib.hid (below_grown (K7.out.alloc K7.out.size _) hg8 (fun r hr => Nat.le_trans (by have := BIG.out; omega) (own_ge own7.out r hr)) (Nat.le_refl _)); obtain ⟨gg, cur, hA8, hgb, hmc, hB8, hcur⟩ := own_box own8 (by omega); subst hA8; have T8 := Lib.hid hB8; have HCUR := Lib.hid hcur; have t8 := (hB8.cell kk).trans (hcur kk _ HAT.out); have f8 := hB8.free kk; clear own8 hg8 hB8 hcur)
    have hgw : w.heap.size < gg := by have := BIG.out; omega
    have P9 := Lib.hid (P8.out.far (p := ⟨gg, kk, none⟩) (show w.heap.size ≠ gg by omega) (.int .u8 v))
    have K9 := Lib.hid (K8.out.setCell (p := ⟨gg, kk, none⟩) (show w.heap.size ≤ gg by omega) (.int .u8 v))
    have T9 := Lib.hid (T8.out.put kk (.int .u8 v))
    have HC9 := Lib.hid (show ∀ (j : Nat) (x : Int), (bs.set kk v)[j]? = some x → (cur.setIfInBounds kk (.int .u8 v))[j]? = some (Value.int .u8 x) from fun j x hj => by
      by_cases e : kk = j
      · subst e
        have hlt : kk < cur.size := (Array.getElem?_eq_some_iff.1 (HCUR.out kk _ HAT.out)).1
        rw [List.getElem?_set_self (by have := HM.out; omega)] at hj
        injection hj with hj
        subst hj
        rw [Array.getElem?_setIfInBounds_self, if_pos hlt]
      · rw [List.getElem?_set_ne e] at hj
        rw [Array.getElem?_setIfInBounds_ne e]
        exact HCUR.out j x hj)
    have g9 := Lib.hid (enget_any (bs.set kk v) (some ⟨gg, 0, none⟩) m c8 _ HTL.out.symm hmc HTB.out (T9.out.lies HTL.out HC9.out))
    clear t8 f8 P8 K8 T8 HCUR
    generalize hW9 : w8.setCell ⟨gg, kk, none⟩ (.int .u8 v) = W9 at *
    clear hW9
    go_upto_region 13 with (first | (with_reducible refine alloc_en rfl rfl ?_) | (with_reducible refine en_store_new rfl rfl rfl rfl En.zeroC_size rfl ?_) | (go_at_call 45; ((with_reducible refine (g9.out).mono ?_); rintro r w10 (⟨y, S2, hgt, rfl, hE, hb⟩ | ⟨hgt, rfl, hb⟩); (all_goals first | (have G10 := Lib.hid (Box.made w10 72 (En.cells y (.slice (some ⟨S2, 0, none⟩) y.evs.length y.evs.length))); have E10 := Lib.hid (hE.alloc (.cells (En.cells y (.slice (some ⟨S2, 0, none⟩) y.evs.length y.evs.length)) 72)); have P10 := Lib.hid ((P9.out.below hb P9.out.lt).alloc (.cells (En.cells y (.slice (some ⟨S2, 0, none⟩) y.evs.length y.evs.length)) 72)); have T10 := Lib.hid ((T9.out.below hb T9.out.lt).alloc (.cells (En.cells y (.slice (some ⟨S2, 0, none⟩) y.evs.length y.evs.length)) 72)); have K10 := Lib.hid ((K9.out.trans (hb.mono K9.out.size)).alloc (Nat.le_trans K9.out.size hb.size) (.cells (En.cells y (.slice (some ⟨S2, 0, none⟩) y.evs.length y.evs.length)) 72)); have HG := Lib.hid hgt; clear hb hE hgt g9) | (have K10 := Lib.hid ((K9.out.trans (hb.mono K9.out.size)).alloc (Nat.le_trans K9.out.size hb.size) (.cells (En.cells ⟨0, [], En.in0⟩ (.slice none 0 0)) 72)); have HG := Lib.hid hgt; clear hb hgt g9)))))
    · obtain ⟨yok, yty, yput⟩ := En.get_some HTB.out HG.out
      have yf := yok.count
      have hlk := (HOTH.out (bs.set kk v) y HTB.out HG.out).trans HVC.out
      have cp2 := fun X hX => Lib.hid (enput_yes y (some ⟨S2, 0, none⟩) y.evs.length y.evs.length X yok yty.ins rfl hX)
      rw [yput, HTL.out] at cp2
      have csm2 := fun X h1 h2 => Lib.hid (show Calls Try.prog 48 #[.agg (En.cells y (.slice (some ⟨S2, 0, none⟩) y.evs.length y.evs.length)), .agg (En.cells e (.slice A e.evs.length c))] X fun r w' => r = .returned (.bool (En.likeB y e)) ∧ Below X.heap.size X w' from ensame_any ⟨y, some ⟨S2, 0, none⟩, y.evs.length⟩ ⟨e, A, c⟩ X (show y.evs.length ≤ maxLen by unfold maxLen; omega) HN.out h1 h2)
      have hcv := Lib.hid (fun A' c' X B hL => conv_bytes (bs.set kk v) m A' c' X B HTL.out hL)
      have c10 := cp2 _ (Lies.boxed E10.out (En.evCells_len _))
      have HLK2 := Lib.hid hlk
      clear cp2 yok yty yput hlk cg1 cg2 csm own7 M7 P9 K9 T9 P7 K7 L7 hxor
      go_upto_region 18 with (first | ((with_reducible refine en_load rfl rfl ?_); apply LoadEn.mk rfl; (focus (with_reducible exact G10.out)); dsimp only) | (go_at_call 42; ((with_reducible refine (c10.out).mono ?_); rintro r w11 ⟨A11, c11, rfl, _, hL11, _, hb⟩; have L11 := Lib.hid hL11; have G11 := Lib.hid (G10.out.below hb G10.out.lt); have P11 := Lib.hid (P10.out.below hb P10.out.lt); have T11 := Lib.hid (T10.out.below hb T10.out.lt); have E11 := Lib.hid (E10.out.below hb E10.out.lt); have K11 := Lib.hid (K10.out.trans (hb.mono K10.out.size)); clear hb hL11 c10)))
      by_cases hz : cb = 0
      · have hlb := En.likeB_yes (HLK2.out.2 hz)
        subst hz
        rw [hlb] at csm2
        clear hlb
        go_wp2_with (first | (go_at_call 40; ((with_reducible refine ((ct _).out).mono ?_); rintro r w12 ⟨rfl, hb⟩; have v1 := hcv.out A11 c11 w12 _ (L11.out.below hb); have T12 := T11.out.below hb T11.out.lt; have v2 := hcv.out (some ⟨gg, 0, none⟩) c8 w12 _ (T12.lies HTL.out HC9.out); have G12 := Lib.hid (G11.out.below hb G11.out.lt); have P12 := Lib.hid (P11.out.below hb P11.out.lt); have E12 := Lib.hid (E11.out.below hb E11.out.lt); have K12 := Lib.hid (K11.out.trans (hb.mono K11.out.size)); have s12 := csm2 w12 (Lies.boxed E12.out (En.evCells_len _)) ((H0.out.below K12.out).wider K12.out.size); clear hb T12)) | ((with_reducible refine en_load_g ?_ rfl ?_); (focus first | rfl | kernel_rfl | simp [Region.wanted, yielded]); apply LoadEn.mk rfl; (focus first | (with_reducible exact G12.out) | (with_reducible exact P12.out)); dsimp only) | (go_at_call 48; ((with_reducible refine (s12.out).mono ?_); rintro r w13 ⟨rfl, hb⟩; have K13 := Lib.hid (K12.out.trans (hb.mono K12.out.size)); clear hb)))
        go_ret
        exact ⟨rfl, K13.out⟩
      · have hlb := En.likeB_no (fun h => hz (HLK2.out.1 h))
        have hcz : (cb == 0) = false := by simpa using hz
        rw [hlb] at csm2
        clear hlb hz
        go_wp2_with (first | (go_at_call 40; ((with_reducible refine ((ct _).out).mono ?_); rintro r w12 ⟨rfl, hb⟩; have v1 := hcv.out A11 c11 w12 _ (L11.out.below hb); have T12 := T11.out.below hb T11.out.lt; have v2 := hcv.out (some ⟨gg, 0, none⟩) c8 w12 _ (T12.lies HTL.out HC9.out); have G12 := Lib.hid (G11.out.below hb G11.out.lt); have P12 := Lib.hid (P11.out.below hb P11.out.lt); have E12 := Lib.hid (E11.out.below hb E11.out.lt); have K12 := Lib.hid (K11.out.trans (hb.mono K11.out.size)); have s12 := csm2 w12 (Lies.boxed E12.out (En.evCells_len _)) ((H0.out.below K12.out).wider K12.out.size); clear hb T12)) | ((with_reducible refine en_load_g ?_ rfl ?_); (focus first | rfl | kernel_rfl | simp [Region.wanted, yielded]); apply LoadEn.mk rfl; (focus first | (with_reducible exact G12.out) | (with_reducible exact P12.out)); dsimp only) | (go_at_call 48; ((with_reducible refine (s12.out).mono ?_); rintro r w13 ⟨rfl, hb⟩; have K13 := Lib.hid (K12.out.trans (hb.mono K12.out.size)); clear hb)))
        go_ret
        exact ⟨rfl, K13.out⟩
    · have hcne : (cb != 0) = true := by
        have hne : cb ≠ 0 := fun e => by
          obtain ⟨e', h1, _⟩ := HYES.out
          have := HG.out
          rw [HVC.out.2 e, h1] at this
          cases this
        simpa using hne
      go_wp2_with (go_at_call 40; ((with_reducible refine ((ct _).out).mono ?_); rintro r w11 ⟨rfl, hb⟩; have K11 := Lib.hid (K10.out.trans (hb.mono K10.out.size)); clear hb))
      go_ret
      exact ⟨rfl, K11.out⟩
  · have cp := Lib.hid (enput_no e A e.evs.length c _ hok rfl hn63 hr0)
    clear hr hr0 hty hok
    go_enter Try.func10, Try.ntmps10
    go_wp2_with (first | ((with_reducible refine en_load rfl rfl ?_); apply LoadEn.mk rfl; (focus (with_reducible exact P0.out)); dsimp only) | (go_at_call 42; ((with_reducible refine (cp.out).mono ?_); rintro r w1 ⟨rfl, hb⟩; have K1 := Lib.hid (K0.out.trans (hb.mono K0.out.size)); clear hb)) | (go_at_call 40; ((with_reducible refine ((ct _).out).mono ?_); rintro r w2 ⟨rfl, hb⟩; have K2 := Lib.hid (K1.out.trans (hb.mono K1.out.size)); clear hb)))
    go_ret
    exact ⟨rfl, K2.out⟩
end Go.Proofs.Ytbihnmingedgfaa
