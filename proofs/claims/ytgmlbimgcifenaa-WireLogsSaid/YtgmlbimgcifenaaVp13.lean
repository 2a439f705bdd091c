/-
Several texts in one: Zx Oz Ua Ub Uc Ud.
-/
import Derived.Test.YtgmlbimgcifenaaVp12
namespace Ms
/-- A message without parts, in Go's own form. -/
def bare14 : S := ⟨start 14 3 258 0 0, none, 0, none, 0, none, 0⟩
def none16 : S := ⟨start 0 0 0 0 0, none, 0, none, 0, none, 0⟩
theorem start_ty {k f s : Int} (h : 0 ≤ k ∧ k ≤ 14) (h2 : 0 ≤ f ∧ f ≤ 11) (h3 : 0 ≤ s ∧ s ≤ 65535) : Ty (start k f s 0 0) := by
  unfold start
  refine ⟨?_, ?_, ?_, ?_, ?_, ?_, ?_, ?_, ?_, ?_, ?_, ?_, ?_, ?_, ?_, ?_⟩ <;> (dsimp only) <;> first | exact h3 | (unfold En.i64; omega) | omega | (intro x hx; cases hx)
theorem bare14_ty : Ty bare14.m := start_ty (by decide) (by decide) (by decide)
theorem none16_ty : Ty none16.m := start_ty (by decide) (by decide) (by decide)
theorem bare14_ok : Ok bare14.m := ⟨by decide, by decide, by decide, fun k h => absurd h (Nat.not_lt_zero _), fun k h => absurd h (Nat.not_lt_zero _)⟩
theorem none16_no : ¬ Ok none16.m := fun h => absurd h.n1 (by decide)
theorem bare14_body : body bare14.m = [14, 3, 2, 1, 0, 0, 0, 0, 0, 0] := by decide
theorem bare14_len : (put bare14.m).length = 14 := by rw [put_len, bare14_body]; rfl
theorem bare14_mid : ((put bare14.m).drop 4).take 4 = [14, 3, 2, 1] := by rw [put_drop, bare14_body]; rfl
theorem sum_none : Crc.sum [] = 4294967295 := rfl
end Ms
namespace Go.Proofs.Ytgmlbimgcifenaa
open Go.RowKit Go.Shelf
set_option linter.unusedVariables false
set_option linter.unusedSimpArgs false

theorem str14 : strOfNums [14, 3, 2, 1] = ⟨#[14, 3, 2, 1]⟩ := rfl
theorem lies_bare {q : Ms.S} {w : World} {b : Nat} (h1 : q.m.ins = []) (h2 : q.m.log = []) (h3 : q.m.data = []) : LiesM w b q := by
  refine ⟨?_, ⟨?_, ?_, ?_⟩, ?_, by rw [h1]; exact Nat.zero_le _, by rw [h2]; exact Nat.zero_le _, by rw [h3]; exact Nat.zero_le _⟩
  · rw [h1]; exact Lies.empty
  · rw [h2]; exact Lies.empty
  · intro s hs; rw [h2] at hs; cases hs
  · intro s hs; rw [h2] at hs; cases hs
  · rw [h3]; exact Lies.empty
theorem Lies.front1 {w : World} {B n m : Nat} {A : Option Addr} {xs ys : List Int} (h : Lies w B 1 A n (Im.u8s (xs ++ ys))) (hm : xs.length = m) (hn : m ≤ n) : Lies w B 1 A m (Im.u8s xs) := by
  refine ⟨by rw [Im.u8s_len]; omega, fun h0 => h.start (by omega), fun ad e h0 j u hj => h.cell ad e (by omega) j u ?_⟩
  rw [Im.u8s_append, List.getElem?_append_left (List.getElem?_eq_some_iff.1 hj).1]
  exact hj
/-- A block more. -/
theorem LiesM.made {w : World} {q : Ms.S} (h : LiesM w w.heap.size q) (x : Obj) : LiesM (w.alloc x) (w.alloc x).heap.size q := (h.to (one_below w x)).wide (one_below w x).size
section
variable {ops : Array Oper} {Q : Exit → Act → World → Prop} {o : Oper} {rest : List Oper} {a : Act} {w : World} {x y : Operand}
/-- A message is loaded, met by its type alone. -/
def LoadMs (ops : Array Oper) (Q : Exit → Act → World → Prop) (rest : List Oper) (dst : Option Tmp) (p : Value) (a : Act) (w : World) : Prop :=
  ∃ (B : Nat) (cs : Array Value), p = .pointer (some ⟨B, 0, none⟩) ∧ Box w B 29 cs ∧ cs.size = 16 ∧ wpList Try.prog ops Q rest (a.put dst (.agg cs)) w
theorem LoadMs.mk {p : Value} {dst : Option Tmp} {B : Nat} {cs : Array Value} (hp : p = .pointer (some ⟨B, 0, none⟩)) (hB : Box w B 29 cs) (hs : cs.size = 16) (h : wpList Try.prog ops Q rest (a.put dst (.agg cs)) w) : LoadMs ops Q rest dst p a w := ⟨B, cs, hp, hB, hs, h⟩
theorem ms_load (hgd : o.guard = none) (ho : o.op = .load 29 x) (h : LoadMs ops Q rest o.dst (a.eval x) a w) : wpList Try.prog ops Q (o :: rest) a w := by
  obtain ⟨B, cs, hx, hB, hs, h⟩ := h
  exact wpList_load_blk hgd ho hx hB Try.underlying29 rfl (by rw [hs]; exact msg_info16) h
theorem ms_load_g (hw : Region.wanted o (yielded ops a.tmps) = true) (ho : o.op = .load 29 x) (h : LoadMs ops Q rest o.dst (a.eval x) a w) : wpList Try.prog ops Q (o :: rest) a w := by
  obtain ⟨B, cs, hx, hB, hs, h⟩ := h
  refine wpList_load_part_g hw ho hx hB cs.toList (fun j v hv => ?_) Try.underlying29 rfl (by rw [Array.length_toList, hs]; exact msg_info16) (by rw [Array.toArray_toList]; exact h)
  rw [Nat.zero_add]
  simpa using hv
theorem ms_store_new {v : World} {old cs : Array Value} (hgd : o.guard = none) (ho : o.op = .store 29 x y) (hx : a.eval x = .pointer (some ⟨v.heap.size, 0, none⟩)) (hy : a.eval y = .agg cs)
    (hold : old.size = 16) (hs : cs.size = 16) (h1 : cs.all (·.oneCell') = true) (h : wpList Try.prog ops Q rest (a.put o.dst undef) (v.alloc (.cells cs 29))) : wpList Try.prog ops Q (o :: rest) a (v.alloc (.cells old 29)) :=
  wpList_store_new hgd ho hx hy rfl rfl (by rw [hs]; exact msg_info16) (by rw [hs]; exact hold) h1 h
end
theorem ms_size (q : Ms.S) : q.cells.size = 16 := rfl
/-- Put of a message that may be and is short. -/
theorem wput_short (q : Ms.S) (w : World) (hT : Ms.Ty q.m) (hok : Ms.Ok q.m) (hl : (Ms.put q.m).length ≤ 1200) (hL : LiesM w w.heap.size q) :
    Calls Try.prog 14 #[.agg q.cells] w fun r w' => ∃ A c, r = .returned (.tuple #[.slice A (Ms.put q.m).length c, .int .i64 0]) ∧ (Ms.put q.m).length ≤ c ∧ w'.ownsRow w.heap.size 5 1 (.slice A (Ms.put q.m).length c) (Ms.put q.m).length (Im.u8s (Ms.put q.m)) ∧ Below w.heap.size w w' :=
  (wput_yes q w hT hok hL).mono fun _ _ h => by
    rcases h with ⟨_, h⟩ | ⟨h, _⟩
    · exact h
    · exact absurd hl h
/-- Get of what Put made of a message. -/
def GotBack (m : Ms.M) (w : World) (r : Ending) (w' : World) : Prop :=
  ∃ q : Ms.S, r = .returned (.tuple #[.agg q.cells, .int .i64 0]) ∧ Ms.sameB q.m m = true ∧ Ms.put q.m = Ms.put m ∧ Ms.Ty q.m ∧ Ms.Ok q.m ∧ LiesM w' w'.heap.size q ∧ Below w.heap.size w w'
theorem wget_back (m : Ms.M) (A : Option Addr) (c : Nat) (w : World) (hT : Ms.Ty m) (hok : Ms.Ok m) (hl : (Ms.put m).length ≤ 1200) (hc : (Ms.put m).length ≤ c) (hL : Lies w w.heap.size 1 A (Ms.put m).length (Im.u8s (Ms.put m))) :
    Calls Try.prog 19 #[.slice A (Ms.put m).length c] w (GotBack m w) :=
  (wget_any (Ms.put m) A _ c w rfl (by unfold maxLen; omega) hc (Ms.put_bytes hT) hL).mono fun r w' h => by
    rcases h with ⟨h, _⟩ | ⟨_, h, _⟩ | ⟨h0, q, h, hr, hq, hb⟩
    · rw [Ms.sum_put hT] at h; cases h
    · exact absurd h (Ms.get_not_none hT hok hl)
    · obtain ⟨h1, h2, h3, _⟩ := Ms.got_put (Ms.put_bytes hT) h0 h
      exact ⟨q, hr, Ms.got_back hT hok hl h, h1, h2, h3, hq, hb⟩
theorem wget_nil (w : World) : Calls Try.prog 19 #[.slice none 0 0] w fun r w' => r = .returned (.tuple #[.agg Ms.zeroM, .int .i64 9]) ∧ Below w.heap.size w w' :=
  (wget_any [] none 0 0 w rfl (Nat.zero_le _) (Nat.le_refl _) Im.IsBytes.nil Lies.empty).mono fun r w' h => by
    rcases h with ⟨_, h⟩ | ⟨h, _⟩ | ⟨h, _⟩
    · exact h
    · cases h
    · cases h

set_option maxRecDepth 100000 in
set_option maxHeartbeats 4000000 in
theorem told12_any (w : World) :
    Calls Try.prog 12 #[] w fun e w' => e = .returned (.bool true) ∧ Below w.heap.size w w' := by
  have l0 : ∀ X b, LiesM X b Ms.bare14 := fun X b => lies_bare rfl rfl rfl
  have cp := fun X => Lib.hid (wput_short Ms.bare14 X Ms.bare14_ty Ms.bare14_ok (by rw [Ms.bare14_len]; omega) (l0 _ _))
  have cg := fun A c X hc hL => Lib.hid (wget_back Ms.bare14.m A c X Ms.bare14_ty Ms.bare14_ok (by rw [Ms.bare14_len]; omega) hc hL)
  have cgn := fun X => Lib.hid (wget_nil X)
  have cpn := fun X => Lib.hid (wput_no Ms.none16 X Ms.none16_ty Ms.none16_no (lies_bare rfl rfl rfl))
  have csm := fun (q : Ms.S) X (hT : Ms.Ty q.m) (hs : Ms.sameB q.m Ms.bare14.m = true) (hL : LiesM X X.heap.size q) => Lib.hid (show Calls Try.prog 22 #[.agg q.cells, .agg Ms.bare14.cells] X fun e w' => e = .returned (.bool true) ∧ Below X.heap.size X w' by
    have := wsame_any q Ms.bare14 X hT Ms.bare14_ty hL (l0 _ _)
    rw [hs] at this
    exact this)
  have cc := fun X => Lib.hid (wcheck_any [] none 0 0 X Im.IsBytes.nil (Nat.zero_le _) Lies.empty)
  rw [Ms.sum_none] at cc
  have cm := fun X => Lib.hid (wmay_any Ms.bare14 X Ms.bare14_ty (l0 _ _))
  rw [Ms.okB_iff.2 Ms.bare14_ok] at cm
  have hcv := fun A c W B hL => conv_bytes [14, 3, 2, 1] 4 A c W B rfl hL
  rw [str14] at hcv
  have HCV := Lib.hid hcv
  have hsplit : Ms.put Ms.bare14.m = (Ms.put Ms.bare14.m).take 4 ++ ([14, 3, 2, 1] ++ (Ms.put Ms.bare14.m).drop 8) := by
    have h1 := Ms.bare14_mid
    have h2 : (Ms.put Ms.bare14.m).drop 8 = ((Ms.put Ms.bare14.m).drop 4).drop 4 := by rw [List.drop_drop]
    rw [h2]
    conv => rhs; rw [← h1, List.take_append_drop, List.take_append_drop]
  have htake : ((Ms.put Ms.bare14.m).take 4).length = 4 := by rw [List.length_take, Ms.bare14_len]; rfl
  have hdrop : ((Ms.put Ms.bare14.m).drop 8).length = 6 := by rw [List.length_drop, Ms.bare14_len]
  rw [Ms.bare14_len] at cp cg
  have b14 : Try.prog.built 29 [(0, .int .i64 14), (1, .int .i64 3), (2, .int .u16 258)] = some Ms.bare14.cells := by kernel_rfl
  have o14 := Lib.hid (msg_one Ms.bare14)
  have HS := Lib.hid hsplit
  have HT := Lib.hid htake
  have HD := Lib.hid hdrop
  have Z16 : Ms.none16.cells = Ms.zeroM := rfl
  rw [Z16] at cpn
  have b16 : Ms.bare14.cells.size = 16 := rfl
  have B16 := Lib.hid b16
  generalize Ms.put Ms.bare14.m = bs at *
  generalize Ms.bare14 = m0 at *
  clear hsplit htake hdrop hcv Z16 l0 b16
  go_enter Try.func12, Try.ntmps12
  go_upto_region 6 with (first | (with_reducible refine alloc_msg rfl rfl ?_) | ((with_reducible refine ms_store_new rfl rfl rfl rfl Ms.zeroM_size ?_ ?_ ?_); (focus first | (with_reducible exact B16.out) | rfl); (focus first | exact o14.out | exact msg_one _ | exact msg_zero_one)) | (refine wpList_build_is rfl (t := 29) (vs := [(0, .int .i64 14), (1, .int .i64 3), (2, .int .u16 258)]) rfl rfl b14 ?_; have T1 := Lib.hid (Box.made w 29 m0.cells); have K1 := Lib.hid (one_below w (.cells m0.cells 29))) | (refine wpList_build_is rfl (t := 29) (vs := []) rfl rfl msg_built ?_) | ((with_reducible refine ms_load rfl rfl ?_); apply LoadMs.mk rfl (by with_reducible exact T1.out) B16.out) | (go_at_call 14; ((with_reducible refine ((cp _).out).mono ?_); rintro r w2 ⟨A2, c2, rfl, hc2, hO2, hb⟩; have O2 := Lib.hid hO2; have T2 := Lib.hid (T1.out.below hb T1.out.lt); have K2 := Lib.hid (K1.out.trans (hb.mono K1.out.size)); have C2 := Lib.hid hc2; have cg2 := cg A2 c2 _ C2.out (Lies.owned O2.out); clear hc2 hO2 hb cp cg)) | (go_at_call 19; ((with_reducible refine (cg2.out).mono ?_); rintro r w3 ⟨q, rfl, hsm, _, hty, hok, hLq, hb⟩; have LQ3 := Lib.hid (LiesM.made hLq (.cells q.cells 29)); have QS := Lib.hid hsm; have QT := Lib.hid hty; have T3 := Lib.hid ((T2.out.below hb T2.out.lt).alloc (.cells q.cells 29)); have K3 := Lib.hid ((K2.out.trans (hb.mono K2.out.size)).alloc (Nat.le_trans K2.out.size hb.size) (.cells q.cells 29)); have G3 := Lib.hid (Box.made w3 29 q.cells); have O3 := Lib.hid ((own_below O2.out hb (Nat.le_refl _)).alloc (.cells q.cells 29)); clear hsm hty hok hLq hb cg2)) | (go_at_call 19; ((with_reducible refine ((cgn _).out).mono ?_); rintro r w4 ⟨rfl, hb⟩; have LQ4 := Lib.hid (LiesM.made ((LQ3.out.to hb).wide hb.size) (.cells Ms.zeroM 29)); have T4 := Lib.hid ((T3.out.below hb T3.out.lt).alloc (.cells Ms.zeroM 29)); have K4 := Lib.hid ((K3.out.trans (hb.mono K3.out.size)).alloc (Nat.le_trans K3.out.size hb.size) (.cells Ms.zeroM 29)); have G4 := Lib.hid ((G3.out.below hb G3.out.lt).alloc (.cells Ms.zeroM 29)); have O4 := Lib.hid ((own_below O3.out hb (Nat.le_refl _)).alloc (.cells Ms.zeroM 29)); clear hb cgn)) | (go_at_call 14; ((with_reducible refine ((cpn _).out).mono ?_); rintro r w5 ⟨rfl, hb⟩; have LQ5 := Lib.hid ((LQ4.out.to hb).wide hb.size); have T5 := Lib.hid (T4.out.below hb T4.out.lt); have K5 := Lib.hid (K4.out.trans (hb.mono K4.out.size)); have G5 := Lib.hid (G4.out.below hb G4.out.lt); have O5 := Lib.hid (own_below O4.out hb (Nat.le_refl _)); clear hb cpn)))
  all_goals (
    obtain ⟨ad, rfl, -⟩ := (Lies.owned O5.out).start (by decide)
    have c8 : 8 ≤ c2 := Nat.le_trans (by decide) C2.out
    have c4 : ¬ c2 = 4 := by omega
    have L5 := Lies.owned O5.out
    rw [HS.out] at L5
    have L6 := Lib.hid (Lies.front1 (Lies.rest L5 10 HT.out C2.out rfl) (m := 4) rfl (by decide))
    rw [if_neg c4] at L6
    clear L5)
  go_wp2_with (first | ((with_reducible refine ms_load_g ?_ rfl ?_); (focus first | rfl | kernel_rfl | simp [Region.wanted, yielded]); apply LoadMs.mk rfl; (focus first | (with_reducible exact G5.out) | (with_reducible exact T6.out) | (with_reducible exact T5.out)); (focus first | exact B16.out | rfl)) | (go_at_call 22; ((with_reducible refine ((csm q _ QT.out QS.out LQ5.out).out).mono ?_); rintro r w6 ⟨rfl, hb⟩; have T6 := Lib.hid (T5.out.below hb T5.out.lt); have K6 := Lib.hid (K5.out.trans (hb.mono K5.out.size)); have hst := HCV.out _ (c2 - 4) w6 _ (L6.out.below hb); rw [show Addr.add ad 4 = ⟨ad.block, ad.off + 4, none⟩ from rfl] at hst; clear hb)) | (go_at_call 23; ((with_reducible refine ((cc _).out).mono ?_); rintro r w7 ⟨rfl, rfl⟩)) | (go_at_call 15; ((with_reducible refine ((cm _).out).mono ?_); rintro r w8 ⟨rfl, hb⟩; have K8 := Lib.hid (K6.out.trans (hb.mono K6.out.size)); clear hb)))
  go_ret
  exact ⟨rfl, K8.out⟩
end Go.Proofs.Ytgmlbimgcifenaa
namespace By
open Go
theorem xor_nat (a b : Nat) (ha : a < 256) (hb : b < 256) : bits .xor .u8 (a : Int) (b : Int) = ((a ^^^ b : Nat) : Int) := by
  have hx : a ^^^ b < 2 ^ 8 := Nat.xor_lt_two_pow (by omega) (by omega)
  show IntKind.u8.wrap ((BitVec.ofInt 8 (a : Int) ^^^ BitVec.ofInt 8 (b : Int)).toNat : Int) = _
  rw [BitVec.toNat_xor, BitVec.toNat_ofInt, BitVec.toNat_ofInt, IntKind.wrap_u8]
  rw [show ((a : Int) % ((2 ^ 8 : Nat) : Int)).toNat = a from by omega, show ((b : Int) % ((2 ^ 8 : Nat) : Int)).toNat = b from by omega]
  omega
theorem xor_turn {x c : Int} (hx : 0 ≤ x ∧ x ≤ 255) (hc : 0 ≤ c ∧ c ≤ 255) : ∃ v : Int, bits .xor .u8 x c = v ∧ (0 ≤ v ∧ v ≤ 255) ∧ (v = x ↔ c = 0) := by
  obtain ⟨a, rfl⟩ := Int.eq_ofNat_of_zero_le hx.1
  obtain ⟨b, rfl⟩ := Int.eq_ofNat_of_zero_le hc.1
  have h := xor_nat a b (by omega) (by omega)
  have hlt : a ^^^ b < 2 ^ 8 := Nat.xor_lt_two_pow (by omega) (by omega)
  refine ⟨_, h, by omega, ⟨fun e => ?_, fun e => ?_⟩⟩
  · have e' : a ^^^ b = a := by exact_mod_cast e
    have e2 : a ^^^ (a ^^^ b) = a ^^^ a := by rw [e']
    rw [← Nat.xor_assoc, Nat.xor_self, Nat.zero_xor] at e2
    omega
  · have : b = 0 := by omega
    subst this
    rw [Nat.xor_zero]
theorem set_bytes {l : List Int} (h : Im.IsBytes l) (k : Nat) {v : Int} (hv : 0 ≤ v ∧ v ≤ 255) : Im.IsBytes (l.set k v) := fun x hx => by
  rcases List.mem_or_eq_of_mem_set hx with hx | rfl
  · exact h x hx
  · exact hv
theorem set_same_iff {l : List Int} {k : Nat} (hk : k < l.length) (v : Int) : l.set k v = l ↔ v = l[k] := by
  constructor
  · intro h
    have := congrArg (fun m => m[k]?) h
    simp [hk] at this
    exact this
  · rintro rfl
    exact List.set_getElem_self hk
end By
namespace Go.Proofs.Ytgmlbimgcifenaa
open Go.RowKit Go.Shelf
set_option linter.unusedVariables false
set_option linter.unusedSimpArgs false

theorem below_grown {B : Nat} {w0 w w' : World} {row : Option Nat} (h : Below B w0 w) (hg : w.grownBy w' row) (hr : ∀ r, row = some r → B ≤ r) (hB : B ≤ w0.heap.size) : Below B w0 w' :=
  ⟨hg.os.trans h.os, hg.tape.trans h.tape, hg.output.trans h.output, Nat.le_trans h.size hg.size, fun i hi => (hg.block i (Nat.lt_of_lt_of_le hi (Nat.le_trans hB h.size)) (fun e => by have := hr i e.symm; omega)).trans (h.block i hi)⟩
theorem Lies.grown {w w' : World} {B size n : Nat} {A : Option Addr} {xs : List Value} {row : Option Nat} (h : Lies w B size A n xs) (hg : w.grownBy w' row) (hr : ∀ r, row = some r → B ≤ r) (hB : B ≤ w.heap.size) : Lies w' B size A n xs :=
  h.stays fun b hb => hg.block b (Nat.lt_of_lt_of_le hb hB) (fun e => by have := hr b e.symm; omega)

theorem own_box {w : World} {base m c : Nat} {A : Option Addr} {bs : List Int} (h : w.ownsRow base 5 1 (.slice A m c) m (Im.u8s bs)) (hm : m ≠ 0) : ∃ g cur, A = some ⟨g, 0, none⟩ ∧ base ≤ g ∧ m ≤ c ∧ Box w g 5 cur ∧ ∀ (j : Nat) (x : Int), bs[j]? = some x → cur[j]? = some (Value.int .u8 x) := by
  obtain ⟨hl, ⟨_, h0⟩ | ⟨g, cap, cur, hv, hbg, hg, hnc, _, _, htake⟩⟩ := h
  · exact absurd h0 hm
  · injection hv with hA _ hc
    subst hc
    refine ⟨g, cur, hA, hbg, hnc, ⟨hg⟩, fun j x hj => ?_⟩
    have hlt : j < bs.length := (List.getElem?_eq_some_iff.1 hj).1
    have h1 : (Im.u8s bs)[j]? = some (Value.int .u8 x) := by unfold Im.u8s; rw [List.getElem?_map, hj]; rfl
    rw [← htake, List.getElem?_take] at h1
    split at h1
    · simpa using h1
    · cases h1
theorem Box.lies {w : World} {g m : Nat} {cur : Array Value} {bs : List Int} (h : Box w g 5 cur) (hm : bs.length = m) (hc : ∀ (j : Nat) (x : Int), bs[j]? = some x → cur[j]? = some (Value.int .u8 x)) : Lies w w.heap.size 1 (some ⟨g, 0, none⟩) m (Im.u8s bs) := by
  refine ⟨by rw [Im.u8s_len]; omega, fun _ => ⟨_, rfl, h.lt⟩, fun ad e h0 j u hu => ?_⟩
  injection e with e
  subst e
  have hadd : (⟨g, 0, none⟩ : Addr).add j = ⟨g, j, none⟩ := by unfold Addr.add; split <;> simp_all
  unfold Im.u8s at hu
  rw [List.getElem?_map] at hu
  cases hj : bs[j]? with
  | none => rw [hj] at hu; cases hu
  | some x =>
    rw [hj] at hu
    injection hu with hu
    subst hu
    rw [hadd, h.cell j]
    exact hc j x hj
theorem own_ge {w : World} {base : Nat} {e : TypeId} {size n : Nat} {v : Value} {xs : List Value} (h : w.ownsRow base e size v n xs) : ∀ r, v.ownBlock = some r → base ≤ r := fun r hr => by
  obtain ⟨_, ⟨rfl, _⟩ | ⟨g, cap, cur, rfl, hbg, _⟩⟩ := h
  · cases hr
  · have e' : g = r := by injection hr
    omega
theorem Box.over {w w' : World} {g B : Nat} {t : TypeId} {cs : Array Value} {row : Option Nat} (h : Box w g t cs) (hg : w.grownBy w' row) (hr : ∀ r, row = some r → B ≤ r) (hlt : g < B) : Box w' g t cs :=
  h.grown hg (fun e => by have := hr g e; omega)
end Go.Proofs.Ytgmlbimgcifenaa
namespace Burst
open Go Im
/-- The byte of a word that a round takes. -/
def tb (t : Int) (i : Nat) : Int := t / 2 ^ (8 * i) % 256
theorem tb_bd (t : Int) (i : Nat) : 0 ≤ tb t i ∧ tb t i ≤ 255 := by unfold tb; omega
def turn (l : List Int) (k : Nat) (t : Int) : Nat → List Int
  | 0 => l
  | i + 1 => (turn l k t i).set (k + i) (bits .xor .u8 ((turn l k t i).getD (k + i) 0) (tb t i))
theorem turn_len (l : List Int) (k : Nat) (t : Int) : ∀ i, (turn l k t i).length = l.length
  | 0 => rfl
  | i + 1 => by show ((turn l k t i).set _ _).length = _; rw [List.length_set]; exact turn_len l k t i
theorem turn_bytes {l : List Int} (h : IsBytes l) (k : Nat) (t : Int) : ∀ i, k + i ≤ l.length → IsBytes (turn l k t i)
  | 0, _ => h
  | i + 1, hk => by
    have h1 := turn_bytes h k t i (by omega)
    have hlt : k + i < (turn l k t i).length := by rw [turn_len]; omega
    have hx := h1 _ (List.getElem_mem hlt)
    obtain ⟨v, hv, hb, _⟩ := By.xor_turn hx (tb_bd t i)
    show IsBytes ((turn l k t i).set _ _)
    rw [List.getD_eq_getElem?_getD, List.getElem?_eq_getElem hlt, Option.getD_some, hv]
    exact By.set_bytes h1 _ hb
theorem set_mid {p q : List Int} {x y : Int} : (p ++ x :: q).set p.length y = p ++ y :: q := by
  rw [List.set_append_right _ _ (Nat.le_refl _), Nat.sub_self]; rfl
theorem get_mid {p q : List Int} {x : Int} : (p ++ x :: q).getD p.length 0 = x := by
  rw [List.getD_eq_getElem?_getD, List.getElem?_append_right (Nat.le_refl _), Nat.sub_self]; rfl
theorem turn_step {l p q : List Int} {x v : Int} {k i : Nat} {t : Int} (h : turn l k t i = p ++ x :: q) (hp : p.length = k + i) (hv : bits .xor .u8 x (tb t i) = v) : turn l k t (i + 1) = (p ++ [v]) ++ q := by
  show (turn l k t i).set _ _ = _
  rw [h, ← hp, get_mid, hv, set_mid, List.append_assoc]
  rfl
theorem cut4 {l : List Int} {k : Nat} (hk : k + 4 ≤ l.length) : ∃ p q a b d e, l = p ++ a :: b :: d :: e :: q ∧ p.length = k := by
  have h : (l.drop k).length = l.length - k := List.length_drop
  match hd : l.drop k, h with
  | [], h => simp at h; omega
  | [a], h => simp at h; omega
  | [a, b], h => simp at h; omega
  | [a, b, d], h => simp at h; omega
  | a :: b :: d :: e :: q, h =>
    refine ⟨l.take k, q, a, b, d, e, ?_, by rw [List.length_take]; omega⟩
    rw [← hd, List.take_append_drop]
theorem burst {l : List Int} (h : IsBytes l) {k : Nat} {t : Int} (hk : k + 4 ≤ l.length) (ht : 0 < t ∧ t ≤ 4294967295) : Crc.sum (turn l k t 4) ≠ Crc.sum l := by
  obtain ⟨p, q, a, b, d, e, rfl, hp⟩ := cut4 hk
  have ba := h a (by simp)
  have bb := h b (by simp)
  have bd := h d (by simp)
  have be := h e (by simp)
  obtain ⟨a', ha, ra, ia⟩ := By.xor_turn ba (tb_bd t 0)
  obtain ⟨b', hb, rb, ib⟩ := By.xor_turn bb (tb_bd t 1)
  obtain ⟨d', hd, rd, id⟩ := By.xor_turn bd (tb_bd t 2)
  obtain ⟨e', he, re, ie⟩ := By.xor_turn be (tb_bd t 3)
  have t1 := turn_step (l := p ++ a :: b :: d :: e :: q) (k := k) (t := t) (i := 0) (p := p) rfl (by omega) ha
  have t2 := turn_step t1 (by simp; omega) hb
  have t3 := turn_step t2 (by simp; omega) hd
  have t4 := turn_step t3 (by simp; omega) he
  have e1 : turn (p ++ a :: b :: d :: e :: q) k t 4 = p ++ [a', b', d', e'] ++ q := by rw [t4]; simp
  have e2 : p ++ a :: b :: d :: e :: q = p ++ [a, b, d, e] ++ q := by simp
  rw [e1, e2]
  have hbs := Crc.bytes_nat h
  have hP : ∀ z ∈ p.map Int.toNat, z < 256 := fun z hz => hbs z (by rw [List.map_append]; exact List.mem_append_left _ hz)
  have hQ : ∀ z ∈ q.map Int.toNat, z < 256 := fun z hz => hbs z (by rw [List.map_append]; simp only [List.map_cons, List.mem_append, List.mem_cons]; exact .inr (.inr (.inr (.inr (.inr hz)))))
  unfold Crc.sum
  rw [List.map_append, List.map_append, List.map_append, List.map_append]
  refine Crc.crc_burst (p.map Int.toNat) (q.map Int.toNat) a'.toNat b'.toNat d'.toNat e'.toNat a.toNat b.toNat d.toNat e.toNat hP hQ (by omega) (by omega) (by omega) (by omega) (by omega) (by omega) (by omega) (by omega) (fun hh => ?_) (by decide)
  obtain ⟨f1, f2, f3, f4⟩ := hh
  have g1 := ia.1 (by omega)
  have g2 := ib.1 (by omega)
  have g3 := id.1 (by omega)
  have g4 := ie.1 (by omega)
  unfold tb at g1 g2 g3 g4
  simp only [Nat.reduceMul, Int.reducePow] at g1 g2 g3 g4
  omega
end Burst
namespace Go.Proofs.Ytgmlbimgcifenaa
open Go.RowKit Go.Shelf
set_option linter.unusedVariables false
set_option linter.unusedSimpArgs false

/-- The row that is turned. -/
structure Turned (w wr : World) (g : Nat) (l : List Int) : Prop where
  box : ∃ cur, Box wr g 5 cur ∧ ∀ (j : Nat) (x : Int), l[j]? = some x → cur[j]? = some (Value.int .u8 x)
  base : w.heap.size ≤ g
  kept : Below w.heap.size w wr
theorem Turned.set {w wr : World} {g : Nat} {l : List Int} (h : Turned w wr g l) {k : Nat} {x : Int} (hk : l[k]? = some x) (v : Int) : Turned w (wr.setCell ⟨g, k, none⟩ (.int .u8 v)) g (l.set k v) := by
  obtain ⟨⟨cur, hb, hc⟩, h2, h3⟩ := h
  refine ⟨⟨_, hb.put k (.int .u8 v), fun j y hj => ?_⟩, h2, h3.setCell (p := ⟨g, k, none⟩) h2 _⟩
  by_cases e : k = j
  · subst e
    have hlt : k < cur.size := (Array.getElem?_eq_some_iff.1 (hc k _ hk)).1
    rw [List.getElem?_set_self (List.getElem?_eq_some_iff.1 hk).1] at hj
    injection hj with hj
    subst hj
    rw [Array.getElem?_setIfInBounds_self, if_pos hlt]
  · rw [List.getElem?_set_ne e] at hj
    rw [Array.getElem?_setIfInBounds_ne e]
    exact hc j y hj

set_option maxRecDepth 100000 in
set_option maxHeartbeats 4000000 in
theorem burst12_law (l : List Int) (A : Option Addr) (c : Nat) (at0 t : Int) (w : World) (hB : Im.IsBytes l) (hl63 : l.length ≤ maxLen) (hlc : l.length ≤ c) (hL : Lies w w.heap.size 1 A l.length (Im.u8s l)) (hat : -9223372036854775808 ≤ at0 ∧ at0 ≤ 9223372036854775807) (ht : 0 ≤ t ∧ t ≤ 4294967295) :
    Calls Try.prog 6 #[.slice A l.length c, .int .i64 at0, .int .u32 t] w fun e w' => e = .returned (.bool true) ∧ Below w.heap.size w w' := by
  have ct := fun X => Lib.hid (told12_any X)
  by_cases hg : 4 ≤ l.length ∧ l.length ≤ 300 ∧ t ≠ 0
  · obtain ⟨h4, h300, ht0⟩ := hg
    obtain ⟨m, hm⟩ : ∃ m, m = l.length := ⟨_, rfl⟩
    rw [← hm] at h4 h300 hlc hL
    rw [← hm]
    have HM := Lib.hid hm
    have HBY := Lib.hid hB
    have cc := fun X hX => Lib.hid (wcheck_any l A m c X hB (by unfold maxLen; omega) hX)
    have hN : ∀ k, k + 4 ≤ m → Crc.sum (Burst.turn l k t 4) ≠ Crc.sum l := fun k hk => Burst.burst hB (by omega) (by omega)
    have HNE := Lib.hid hN
    have hw3 : IntKind.u64.wrap ((m : Int) - 3) = (m : Int) - 3 := by rw [IntKind.wrap_u64]; omega
    have u0 : 0 ≤ IntKind.u64.wrap at0 := by rw [IntKind.wrap_u64]; omega
    have u1 : IntKind.u64.wrap at0 ≤ 18446744073709551615 := by rw [IntKind.wrap_u64]; omega
    obtain ⟨kk, hkk, hkm⟩ : ∃ kk : Nat, RowKit.wrap64 (IntKind.u64.wrap at0 % ((m : Int) - 3)) = kk ∧ kk + 3 < m := by
      have h0 : 0 ≤ IntKind.u64.wrap at0 % ((m : Int) - 3) := Int.emod_nonneg _ (by omega)
      have h1 : IntKind.u64.wrap at0 % ((m : Int) - 3) < (m : Int) - 3 := Int.emod_lt_of_pos _ (by omega)
      refine ⟨(IntKind.u64.wrap at0 % ((m : Int) - 3)).toNat, ?_, by omega⟩
      rw [IntWalk.wrap64_in _ (by omega)]; omega
    have HKM := Lib.hid hkm
    have i4 : ¬ (m : Int) < 4 := by omega
    have i300 : ¬ 300 < (m : Int) := by omega
    obtain ⟨i0, hi0, hz0, hz1, hz2⟩ := u8_parts
    have hI := Lib.hid hi0
    have hZ := Lib.hid hz0
    have hS := Lib.hid hz1
    have hY := Lib.hid hz2
    have own0 := Lib.hid (World.ownsRow_lit (base := w.heap.size) (e := 5) (size := 1) w #[] 0 (Nat.le_refl _) (Nat.zero_le _) rfl)
    have M0 := Lib.hid ((hL.below (one_below w (.cells #[] 5))).wider (show w.heap.size ≤ (w.alloc (.cells #[] 5)).heap.size by simp))
    have HL := Lib.hid hL
    clear hi0 hz0 hz1 hz2 hL hm hB hN hl63
    go_enter Try.func6, Try.ntmps6
    go_upto_region 5 with ((with_reducible refine append_gate (x := .tmp 31) (y := .tmp 32) (t := 27) (e := 5) (size := 1) (bytes := 1) rfl rfl Try.underlying27 hI.out hZ.out hS.out hY.out rfl (by decide) ?_); refine Appends.mk (base := w.heap.size) (n := 0) (xs := []) rfl own0.out M0.out (Im.u8s_one _) (by unfold maxLen; omega) (by omega) (by simp) ?_; intro A8 c8 w8 own8 hg8; simp only [Nat.zero_add, List.nil_append] at own8 ⊢; have K8 := Lib.hid (below_grown (one_below w _) hg8 (fun r hr => Nat.le_trans (by omega) (own_ge own0.out r hr)) (Nat.le_refl _)); obtain ⟨gg, cur, hA8, hgb, hmc, hB8, hcur⟩ := own_box own8 (by omega); subst hA8; have T8 := Lib.hid (Turned.mk (w := w) (l := l) ⟨cur, hB8, hcur⟩ hgb K8.out); clear own8 hg8 hB8 hcur)
    go_wp2
    go_loopw [9] (fun i wr => ∃ j : Nat, j ≤ 4 ∧ i = .int .i64 j ∧ Turned w wr gg (Burst.turn l kk t j)) (fun i _ => 4 - (intOf i).toNat)
    case atStart => exact ⟨0, by decide, rfl, T8.out⟩
    case round =>
      obtain ⟨j, hj, rfl, hT⟩ := hrel
      by_cases hj4 : j < 4
      · have hlt : kk + j < (Burst.turn l kk t j).length := by rw [Burst.turn_len]; have := HM.out; have := HKM.out; omega
        have hstep := hT.set (List.getElem?_eq_getElem hlt)
        obtain ⟨⟨cur1, hb1, hc1⟩, _, _⟩ := hT
        have t1 := (hb1.cell (kk + j)).trans (hc1 _ _ (List.getElem?_eq_getElem hlt))
        have f1 := hb1.free (kk + j)
        have hxb := (Burst.turn_bytes HBY.out kk t j (by have := HM.out; have := HKM.out; omega)) _ (List.getElem_mem hlt)
        obtain ⟨v, hv, hvb, hv0⟩ := By.xor_turn hxb (Burst.tb_bd t j)
        clear hv0
        have HS2 := Lib.hid (show Burst.turn l kk t (j + 1) = (Burst.turn l kk t j).set (kk + j) v by
          show (Burst.turn l kk t j).set _ _ = _
          rw [List.getD_eq_getElem?_getD, List.getElem?_eq_getElem hlt, Option.getD_some, hv])
        have HS3 := Lib.hid (hstep v)
        unfold Burst.tb at hv
        generalize (Burst.turn l kk t j)[kk + j] = xk at t1 hv hxb
        clear hc1 hb1 hstep hlt
        rcases (by omega : j = 0 ∨ j = 1 ∨ j = 2 ∨ j = 3) with rfl | rfl | rfl | rfl
        all_goals (
          simp only [Nat.add_zero, Nat.mul_zero, Nat.reduceMul, Int.reducePow, Int.ediv_one] at t1 f1 hv
          (try rw [show t / 16777216 % 256 = t / 16777216 by omega] at hv)
          go_wp2_with fail
          exact ⟨⟨_, by decide, rfl, by rw [HS2.out]; exact HS3.out⟩, by simp [intOf]⟩)
      · obtain rfl : j = 4 := by omega
        obtain ⟨⟨cur4, hb4, hc4⟩, _, hk4⟩ := hT
        have B4 := Lib.hid hb4
        have C4 := Lib.hid hc4
        have K4 := Lib.hid hk4
        have hX := HNE.out kk (by have := HKM.out; omega)
        have hBX := Burst.turn_bytes HBY.out kk t 4 (by have := HM.out; have := HKM.out; omega)
        have hLX : (Burst.turn l kk t 4).length = m := by rw [Burst.turn_len]; exact HM.out.symm
        generalize Burst.turn l kk t 4 = X4 at *
        have cx := fun X hX => Lib.hid (wcheck_any X4 (some ⟨gg, 0, none⟩) m c8 X hBX (by unfold maxLen; omega) hX)
        have hne : ¬ ((Crc.sum X4 : Nat) : Int) = ((Crc.sum l : Nat) : Int) := fun e => hX (by omega)
        have HLX := Lib.hid hLX
        clear hX hBX hLX hb4 hc4 hk4
        go_wp2_with (first | (go_at_call 12; ((with_reducible refine ((ct _).out).mono ?_); rintro r w5 ⟨rfl, hb⟩; have K5 := Lib.hid (K4.out.trans (hb.mono K4.out.size)); have c5 := cx w5 ((B4.out.below hb B4.out.lt).lies HLX.out C4.out); have c6 := cc w5 ((HL.out.below K5.out).wider K5.out.size); clear hb cx cc)) | (go_at_call 23; first | ((with_reducible refine (c5.out).mono ?_); rintro r w6 ⟨rfl, rfl⟩) | ((with_reducible refine (c6.out).mono ?_); rintro r w7 ⟨rfl, rfl⟩)))
        go_ret
        exact ⟨ret_bool (by simp [hne]), K5.out⟩
  · go_enter Try.func6, Try.ntmps6
    by_cases h4 : l.length < 4
    · have i4 : (l.length : Int) < 4 := by omega
      go_wp2_with (go_at_call 12; ((with_reducible refine ((ct _).out).mono ?_); rintro r w5 ⟨rfl, hb⟩))
      go_ret
      exact ⟨rfl, hb⟩
    · have i4 : ¬ (l.length : Int) < 4 := by omega
      by_cases h3 : 300 < l.length
      · have i3 : 300 < (l.length : Int) := by omega
        go_wp2_with (go_at_call 12; ((with_reducible refine ((ct _).out).mono ?_); rintro r w5 ⟨rfl, hb⟩))
        go_ret
        exact ⟨rfl, hb⟩
      · have i3 : ¬ 300 < (l.length : Int) := by omega
        obtain rfl : t = 0 := Classical.byContradiction fun ne => hg ⟨by omega, by omega, ne⟩
        go_wp2_with (go_at_call 12; ((with_reducible refine ((ct _).out).mono ?_); rintro r w5 ⟨rfl, hb⟩))
        go_ret
        exact ⟨rfl, hb⟩
end Go.Proofs.Ytgmlbimgcifenaa
namespace Go.Proofs.Ytgmlbimgcifenaa
open Go.RowKit Go.Shelf
set_option linter.unusedVariables false
set_option linter.unusedSimpArgs false

/-- Some answer. -/
def SaysB (w : World) (e : Ending) (w' : World) : Prop := ∃ b : Bool, e = .returned (.bool b) ∧ Below w.heap.size w w'
set_option maxRecDepth 100000 in
set_option maxHeartbeats 4000000 in
theorem few12_any (q : Ms.S) (w : World) (hL : LiesM w w.heap.size q) :
    Calls Try.prog 11 #[.agg q.cells] w (SaysB w) := by
  have K1 := Lib.hid (one_below w (.cells q.cells 29))
  have B1 := Lib.hid (Box.made w 29 q.cells)
  have r13 : q.cells[13]? = some (.slice q.ai q.m.ins.length q.ci) := rfl
  have r14 : q.cells[14]? = some (.slice q.al q.m.log.length q.cl) := rfl
  have r15 : q.cells[15]? = some (.slice q.ad q.m.data.length q.cd) := rfl
  have k13 := (B1.out.cell 13).trans r13
  have k14 := (B1.out.cell 14).trans r14
  have k15 := (B1.out.cell 15).trans r15
  obtain ⟨ni, hni⟩ : ∃ n, n = q.m.ins.length := ⟨_, rfl⟩
  obtain ⟨n, hn⟩ : ∃ n, n = q.m.log.length := ⟨_, rfl⟩
  obtain ⟨nd, hnd⟩ : ∃ n, n = q.m.data.length := ⟨_, rfl⟩
  have hlog := hL.log
  have fl := hL.fl
  rw [← hni] at k13
  rw [← hn] at k14 r14 hlog fl
  rw [← hnd] at k15
  unfold maxLen at fl
  have HLX := Lib.hid hlog
  have HN := Lib.hid hn
  have R14 := Lib.hid r14
  have l1 : w.heap.size < w.heap.size + 1 := Nat.lt_succ_self _
  clear hlog hn hni hnd r13 r14 r15 hL
  go_enter Try.func11, Try.ntmps11
  by_cases h1 : 20 < ni
  · have i1 : 20 < (ni : Int) := by omega
    go_wp2
    go_ret
    exact ⟨_, rfl, K1.out⟩
  · have i1 : ¬ 20 < (ni : Int) := by omega
    by_cases h2 : 20 < n
    · have i2 : 20 < (n : Int) := by omega
      go_wp2
      go_ret
      exact ⟨_, rfl, K1.out⟩
    · have i2 : ¬ 20 < (n : Int) := by omega
      by_cases h3 : 100 < nd
      · have i3 : 100 < (nd : Int) := by omega
        go_wp2
        go_ret
        exact ⟨_, rfl, K1.out⟩
      · have i3 : ¬ 100 < (nd : Int) := by omega
        go_wp2
        go_loopw [3] (fun i wr => ∃ k : Nat, k ≤ n ∧ i = .int .i64 k ∧ Box wr w.heap.size 29 q.cells ∧ Below w.heap.size w wr) (fun i _ => n - (intOf i).toNat)
        case atStart => exact ⟨0, by omega, rfl, B1.out, K1.out⟩
        case round =>
          obtain ⟨k, hk, rfl, hB, hb⟩ := hrel
          have j14 := (hB.cell 14).trans R14.out
          have lB := hB.lt
          by_cases hlt : k < n
          · have hk8 : (k : Int) < n := by omega
            have hkl : k < q.m.log.length := by have := HN.out; omega
            obtain ⟨ad, hA, hbl, hcell⟩ := (HLX.out.below hb).at k hkl
            obtain ⟨p, hp⟩ : ∃ p, p = q.m.log[k] := ⟨_, rfl⟩
            rw [← hp] at hcell
            have hlen : p.cells.length = 26 := En.S.cells_len p
            have cf := fun X => Lib.hid (enfew_any p.e p.adr p.e.evs.length p.cap X)
            rw [show Value.slice p.adr p.e.evs.length p.cap = p.sl from rfl] at cf
            obtain ⟨z, hz⟩ : ∃ z, z = En.cells p.e p.sl := ⟨_, rfl⟩
            have hqz : p.cells.toArray = z := by rw [hz]; exact En.S.cells_arr p
            have HB := Lib.hid hB
            have HK := Lib.hid hb
            rw [← hz] at cf
            rw [hA] at j14
            generalize decide ((p.e.evs.length : Int) ≤ 20) = fb at cf
            clear hz hp hB hb hA
            cases fb
            · go_wp2_with (first | ((with_reducible refine load_at_gate rfl rfl Try.underlying53 rfl en_info ?_); apply LoadAt.mk rfl hcell hlen; rw [hqz]) | (go_at_call 25; ((with_reducible refine ((cf _).out).mono ?_); rintro r w3 ⟨rfl, hb3⟩; have K3 := Lib.hid (HK.out.trans (hb3.mono HK.out.size)); have B3 := Lib.hid (HB.out.below hb3 HB.out.lt); clear hb3)))
              go_ret
              exact ⟨_, rfl, K3.out⟩
            · go_wp2_with (first | ((with_reducible refine load_at_gate rfl rfl Try.underlying53 rfl en_info ?_); apply LoadAt.mk rfl hcell hlen; rw [hqz]) | (go_at_call 25; ((with_reducible refine ((cf _).out).mono ?_); rintro r w3 ⟨rfl, hb3⟩; have K3 := Lib.hid (HK.out.trans (hb3.mono HK.out.size)); have B3 := Lib.hid (HB.out.below hb3 HB.out.lt); clear hb3)))
              go_roundw
              case rel => exact ⟨k + 1, by omega, by go_num, B3.out, K3.out⟩
              case measure => simp [intOf]; omega
          · have hk8 : ¬ (k : Int) < n := by omega
            go_wp2
            go_ret
            exact ⟨_, rfl, hb⟩
end Go.Proofs.Ytgmlbimgcifenaa
namespace Go.Proofs.Ytgmlbimgcifenaa
open Go.RowKit Go.Shelf
set_option linter.unusedVariables false
set_option linter.unusedSimpArgs false

/-- Put of a message that may not be, or is too long. -/
def SaysNo (w : World) (r : Ending) (w' : World) : Prop := ∃ k : Int, r = .returned (.tuple #[.slice none 0 0, .int .i64 k]) ∧ (k != 0) = true ∧ Below w.heap.size w w'
theorem wput_not (q : Ms.S) (w : World) (hT : Ms.Ty q.m) (h : ¬ (Ms.Ok q.m ∧ (Ms.put q.m).length ≤ 1200)) (hL : LiesM w w.heap.size q) :
    Calls Try.prog 14 #[.agg q.cells] w (SaysNo w) := by
  by_cases hok : Ms.Ok q.m
  · refine (wput_yes q w hT hok hL).mono fun r w' hs => ?_
    rcases hs with ⟨hl, _⟩ | ⟨_, hr, hb⟩
    · exact absurd ⟨hok, hl⟩ h
    · exact ⟨4, hr, rfl, hb⟩
  · exact (wput_no q w hT hok hL).mono fun r w' ⟨hr, hb⟩ => ⟨1, hr, rfl, hb⟩
/-- A message of ours in a world that grew. -/
theorem LiesM.on {w w' : World} {q : Ms.S} (h : LiesM w w.heap.size q) (hb : Below w.heap.size w w') : LiesM w' w'.heap.size q := (h.to hb).wide hb.size
theorem Lies.on {w w' : World} {size n : Nat} {A : Option Addr} {xs : List Value} (h : Lies w w.heap.size size A n xs) (hb : Below w.heap.size w w') : Lies w' w'.heap.size size A n xs := (h.below hb).wider hb.size

set_option maxRecDepth 100000 in
set_option maxHeartbeats 4000000 in
theorem back12_law (q : Ms.S) (w : World) (hT : Ms.Ty q.m) (hL : LiesM w w.heap.size q) :
    Calls Try.prog 4 #[.agg q.cells] w fun e w' => e = .returned (.bool true) ∧ Below w.heap.size w w' := by
  have ct := fun X => Lib.hid (told12_any X)
  have P0 := Lib.hid (Box.made w 29 q.cells)
  have K0 := Lib.hid (one_below w (.cells q.cells 29))
  have L0 := Lib.hid (LiesM.made hL (.cells q.cells 29))
  have cf := Lib.hid (few12_any q _ L0.out)
  by_cases hg : Ms.Ok q.m ∧ (Ms.put q.m).length ≤ 1200
  · obtain ⟨hok, hl⟩ := hg
    have cp := fun X hX => Lib.hid (wput_short q X hT hok hl hX)
    have cg := fun A c X hc hX => Lib.hid (wget_back q.m A c X hT hok hl hc hX)
    have csm := fun (q2 : Ms.S) X (hs : Ms.sameB q2.m q.m = true) (hT2 : Ms.Ty q2.m) (h2 : LiesM X X.heap.size q2) (h1 : LiesM X X.heap.size q) => Lib.hid (show Calls Try.prog 22 #[.agg q2.cells, .agg q.cells] X fun e w' => e = .returned (.bool true) ∧ Below X.heap.size X w' by
      have := wsame_any q2 q X hT2 hT h2 h1
      rw [hs] at this
      exact this)
    have h14 : 14 ≤ (Ms.put q.m).length := by have := Ms.body_pos q.m; rw [Ms.put_len]; omega
    have hcv := fun A c X B hX => conv_bytes (Ms.put q.m) (Ms.put q.m).length A c X B rfl hX
    have HL := Lib.hid hl
    unfold GotBack at cg
    obtain ⟨m0, hm0⟩ : ∃ m0, m0 = q.m := ⟨_, rfl⟩
    rw [← hm0] at cp cg hcv HL h14 csm hl
    generalize Ms.put m0 = bs at *
    generalize strOfNums bs = st at hcv
    have HCV := Lib.hid hcv
    obtain ⟨m, hm⟩ : ∃ m, m = bs.length := ⟨_, rfl⟩
    rw [← hm] at cp cg h14 hl HL HCV
    have i14 : 14 ≤ (m : Int) := by omega
    have i1200 : (m : Int) ≤ 1200 := by omega
    have HM := Lib.hid hm
    clear hcv hT hok hL hm hm0
    go_enter Try.func4, Try.ntmps4
    go_wp2_with (first | ((with_reducible refine ms_load rfl rfl ?_); apply LoadMs.mk rfl (by first | (with_reducible exact P0.out) | (with_reducible exact P1.out) | (with_reducible exact G3.out)) (ms_size _)) | ((with_reducible refine ms_load_g ?_ rfl ?_); (focus first | rfl | kernel_rfl | simp [Region.wanted, yielded]); apply LoadMs.mk rfl (by first | (with_reducible exact P5.out) | (with_reducible exact G5.out)) (ms_size _)) | (with_reducible refine alloc_msg rfl rfl ?_) | ((with_reducible refine ms_store_new rfl rfl rfl rfl Ms.zeroM_size rfl (msg_one _) ?_)) | (go_at_call 11; ((with_reducible refine (cf.out).mono ?_); rintro r w1 ⟨fb, rfl, hb⟩; have P1 := Lib.hid (P0.out.below hb P0.out.lt); have K1 := Lib.hid (K0.out.trans (hb.mono K0.out.size)); have L1 := Lib.hid (L0.out.on hb); cases fb; (all_goals clear hb cf))) | (go_at_call 14; first | ((with_reducible refine ((cp _ L1.out).out).mono ?_); rintro r w2 ⟨A2, c2, rfl, hc2, hO2, hb⟩; have P2 := Lib.hid (P1.out.below hb P1.out.lt); have K2 := Lib.hid (K1.out.trans (hb.mono K1.out.size)); have L2 := Lib.hid (L1.out.on hb); have R2 := Lib.hid (Lies.owned hO2); have cg2 := cg A2 c2 _ hc2 R2.out; clear hc2 hO2 hb cp cg) | ((with_reducible refine ((cp2 _ Q3.out).out).mono ?_); rintro r w4 ⟨A4, c4, rfl, hc4, hO4, hb⟩; have P4 := Lib.hid (P3.out.below hb P3.out.lt); have G4 := Lib.hid (G3.out.below hb G3.out.lt); have K4 := Lib.hid (K3.out.trans (hb.mono K3.out.size)); have L4 := Lib.hid (L3.out.on hb); have Q4 := Lib.hid (Q3.out.on hb); have R4 := Lib.hid (R3.out.on hb); have S4 := Lib.hid (Lies.owned hO4); clear hc4 hO4 hb cp2)) | (go_at_call 19; ((with_reducible refine (cg2.out).mono ?_); rintro r w3 ⟨q2, rfl, hsm, hput, hty, hok, hLq, hb⟩; have QS := Lib.hid hsm; have QT := Lib.hid hty; have cp2 := fun X hX => Lib.hid (wput_short q2 X hty hok (by rw [hput, ← HM.out]; exact HL.out) hX); rw [hput, ← HM.out] at cp2; have P3 := Lib.hid ((P2.out.below hb P2.out.lt).alloc (.cells q2.cells 29)); have G3 := Lib.hid (Box.made w3 29 q2.cells); have K3 := Lib.hid ((K2.out.trans (hb.mono K2.out.size)).alloc (Nat.le_trans K2.out.size hb.size) (.cells q2.cells 29)); have L3 := Lib.hid ((L2.out.on hb).made (.cells q2.cells 29)); have R3 := Lib.hid ((R2.out.on hb).on (one_below w3 (.cells q2.cells 29))); have Q3 := Lib.hid (hLq.made (.cells q2.cells 29)); clear hsm hput hty hok hLq hb cg2)) | (go_at_call 12; ((with_reducible refine ((ct _).out).mono ?_); rintro r w5 ⟨rfl, hb⟩; first | (have K5 := Lib.hid (K4.out.trans (hb.mono K4.out.size)); have P5 := Lib.hid (P4.out.below hb P4.out.lt); have G5 := Lib.hid (G4.out.below hb G4.out.lt); have R5 := Lib.hid (R4.out.on hb); have S5 := Lib.hid (S4.out.on hb); have cs5 := csm q2 w5 QS.out QT.out (Q4.out.on hb) (L4.out.on hb); clear hb) | (have K5 := Lib.hid (K1.out.trans (hb.mono K1.out.size)); clear hb))) | (go_at_call 22; ((with_reducible refine (cs5.out).mono ?_); rintro r w6 ⟨rfl, hb⟩; have K6 := Lib.hid (K5.out.trans (hb.mono K5.out.size)); have h2 := HCV.out A2 c2 w6 _ (R5.out.on hb); have h4 := HCV.out A4 c4 w6 _ (S5.out.on hb); clear hb)))
    all_goals
      go_ret
      first | exact ⟨rfl, K6.out⟩ | exact ⟨rfl, K5.out⟩
  · have cp := fun X hX => Lib.hid (wput_not q X hT hg hX)
    go_enter Try.func4, Try.ntmps4
    go_wp2_with (first | ((with_reducible refine ms_load rfl rfl ?_); apply LoadMs.mk rfl (by first | (with_reducible exact P0.out) | (with_reducible exact P1.out)) (ms_size _)) | (go_at_call 11; ((with_reducible refine (cf.out).mono ?_); rintro r w1 ⟨fb, rfl, hb⟩; have P1 := Lib.hid (P0.out.below hb P0.out.lt); have K1 := Lib.hid (K0.out.trans (hb.mono K0.out.size)); have L1 := Lib.hid (L0.out.on hb); cases fb; (all_goals clear hb cf))) | (go_at_call 14; ((with_reducible refine ((cp _ L1.out).out).mono ?_); rintro r w2 ⟨k, rfl, hk, hb⟩; have K2 := Lib.hid (K1.out.trans (hb.mono K1.out.size)); clear hb cp)) | (go_at_call 12; ((with_reducible refine ((ct _).out).mono ?_); rintro r w5 ⟨rfl, hb⟩; first | (have K5 := Lib.hid (K2.out.trans (hb.mono K2.out.size)); clear hb) | (have K5 := Lib.hid (K1.out.trans (hb.mono K1.out.size)); clear hb))))
    all_goals
      go_ret
      exact ⟨rfl, K5.out⟩
end Go.Proofs.Ytgmlbimgcifenaa
namespace Ms
open Go Im
theorem set_mid {p q : List Int} {x y : Int} : (p ++ x :: q).set p.length y = p ++ y :: q := by
  rw [List.set_append_right _ _ (Nat.le_refl _), Nat.sub_self]; rfl
theorem sum_spoilt {l : List Int} (h : IsBytes l) {k : Nat} (hk : k < l.length) {v : Int} (hv : 0 ≤ v ∧ v ≤ 255) (hne : v ≠ l[k]) : Crc.sum (l.set k v) ≠ Crc.sum l := by
  have e1 : l = l.take k ++ l[k] :: l.drop (k + 1) := by rw [List.getElem_cons_drop, List.take_append_drop]
  have hx := h _ (List.getElem_mem hk)
  generalize l[k] = x at e1 hne hx
  have hp : (l.take k).length = k := by rw [List.length_take]; omega
  have hbs := Crc.bytes_nat h
  have e2 : l.set k v = l.take k ++ v :: l.drop (k + 1) := by
    have := set_mid (p := l.take k) (q := l.drop (k + 1)) (x := x) (y := v)
    rw [hp, ← e1] at this
    exact this
  rw [e2]
  conv => rhs; rw [e1]
  unfold Crc.sum
  rw [List.map_append, List.map_append, List.map_cons, List.map_cons]
  refine Crc.crc_spoilt _ _ _ _ (fun z hz => hbs z ?_) (fun z hz => hbs z ?_) (by omega) (by omega) (by omega) (by decide)
  · obtain ⟨y, hy, rfl⟩ := List.mem_map.1 hz
    exact List.mem_map.2 ⟨y, List.mem_of_mem_take hy, rfl⟩
  · obtain ⟨y, hy, rfl⟩ := List.mem_map.1 hz
    exact List.mem_map.2 ⟨y, List.mem_of_mem_drop hy, rfl⟩
theorem bytes4_inj {x y : Int} (hx : 0 ≤ x ∧ x < 4294967296) (hy : 0 ≤ y ∧ y < 4294967296) (h : bytesOf 4 x = bytesOf 4 y) : x = y := by
  have h1 := rdn_bytes 4 x []
  have h2 := rdn_bytes 4 y []
  rw [h, h2] at h1
  injection h1 with h1
  injection h1 with h1
  simp only [Nat.reduceMul, Int.reducePow] at h1
  omega
/-- One byte turned: the sum says so. -/
theorem put_spoilt {m : M} (hT : Ty m) {k : Nat} (hk : k < (put m).length) {v : Int} (hv : 0 ≤ v ∧ v ≤ 255) (hne : v ≠ (put m)[k]) : sumB ((put m).set k v) = false := by
  have hB := put_bytes hT
  have hBs := By.set_bytes hB k hv
  have hno : (put m).set k v ≠ put m := fun e => hne ((By.set_same_iff hk v).1 e)
  cases hs : sumB ((put m).set k v) with
  | false => rfl
  | true =>
    exfalso
    unfold sumB at hs
    cases hr : rdn 4 ((put m).set k v) with
    | none => rw [hr] at hs; cases hs
    | some p =>
      obtain ⟨y, rest⟩ := p
      rw [hr] at hs
      have hy : y = ((Crc.sum rest : Nat) : Int) := by simpa using hs
      obtain ⟨c1, c2, c3, c4⟩ := rdn_inv hBs hr
      have hrest : ((put m).set k v).drop 4 = rest := by
        rw [c1, List.drop_append_of_le_length (by rw [bytesOf_len]; omega), List.drop_eq_nil_of_le (by rw [bytesOf_len]; omega), List.nil_append]
      have htake : ((put m).set k v).take 4 = bytesOf 4 y := by
        rw [c1, List.take_append_of_le_length (by rw [bytesOf_len]; omega), List.take_of_length_le (by rw [bytesOf_len]; omega)]
      have hput : put m = bytesOf 4 ((Crc.sum (body m) : Nat) : Int) ++ body m := rfl
      by_cases h4 : k < 4
      · have e : rest = body m := by rw [← hrest, List.drop_set_of_lt h4, put_drop]
        apply hno
        rw [c1, hy, e]
        exact hput.symm
      · have e1 : (put m).take 4 = bytesOf 4 ((Crc.sum (body m) : Nat) : Int) := by
          rw [hput, List.take_append_of_le_length (by rw [bytesOf_len]; omega), List.take_of_length_le (by rw [bytesOf_len]; omega)]
        have e2 : ((put m).set k v).take 4 = (put m).take 4 := by rw [List.take_set_of_le (by omega)]
        have e3 : bytesOf 4 y = bytesOf 4 ((Crc.sum (body m) : Nat) : Int) := by rw [← htake, e2, e1]
        have s1 := Crc.sum_lt (body_bytes hT)
        have e4 := bytes4_inj ⟨c2, by simpa using c3⟩ ⟨by omega, by omega⟩ e3
        have e5 : rest = (body m).set (k - 4) v := by rw [← hrest, List.drop_set, if_neg h4, put_drop]
        have hlt : k - 4 < (body m).length := by rw [put_len] at hk; omega
        have hg : (put m)[k] = (body m)[k - 4] := by
          have := List.getElem_of_eq hput hk
          rw [this, List.getElem_append_right (by rw [bytesOf_len]; omega)]
          simp only [bytesOf_len]
        rw [hg] at hne
        have := sum_spoilt (body_bytes hT) hlt hv hne
        rw [← e5] at this
        omega
end Ms
namespace Go.Proofs.Ytgmlbimgcifenaa
open Go.RowKit Go.Shelf
set_option linter.unusedVariables false
set_option linter.unusedSimpArgs false

theorem row_set {l : List Int} {cur : Array Value} (hc : ∀ (j : Nat) (x : Int), l[j]? = some x → cur[j]? = some (Value.int .u8 x)) {k : Nat} {x : Int} (hk : l[k]? = some x) (v : Int) : ∀ (j : Nat) (y : Int), (l.set k v)[j]? = some y → (cur.setIfInBounds k (.int .u8 v))[j]? = some (Value.int .u8 y) := by
  intro j y hj
  by_cases e : k = j
  · subst e
    have hlt : k < cur.size := (Array.getElem?_eq_some_iff.1 (hc k _ hk)).1
    rw [List.getElem?_set_self (List.getElem?_eq_some_iff.1 hk).1] at hj
    injection hj with hj
    subst hj
    rw [Array.getElem?_setIfInBounds_self, if_pos hlt]
  · rw [List.getElem?_set_ne e] at hj
    rw [Array.getElem?_setIfInBounds_ne e]
    exact hc j y hj
/-- What Get says of a datagram of which one byte was turned, or not. -/
def SaysTurned (c : Int) (w : World) (r : Ending) (w' : World) : Prop := ∃ (cs : Array Value) (f : Int), r = .returned (.tuple #[.agg cs, .int .i64 f]) ∧ cs.size = 16 ∧ cs.all (·.oneCell') = true ∧ (f = 9 ↔ c ≠ 0) ∧ (c ≠ 0 ∨ f = 0) ∧ Below w.heap.size w w'
theorem wget_turned (m : Ms.M) (k : Nat) (v c : Int) (A : Option Addr) (n cp : Nat) (w : World) (hT : Ms.Ty m) (hok : Ms.Ok m) (hl : (Ms.put m).length ≤ 1200) (hn : n = (Ms.put m).length) (hc : n ≤ cp) (hk : k < (Ms.put m).length) (hv : 0 ≤ v ∧ v ≤ 255) (hvc : v = (Ms.put m)[k] ↔ c = 0) (hL : Lies w w.heap.size 1 A n (Im.u8s ((Ms.put m).set k v))) :
    Calls Try.prog 19 #[.slice A n cp] w (SaysTurned c w) := by
  subst hn
  by_cases h0 : c = 0
  · have e : (Ms.put m).set k v = Ms.put m := (By.set_same_iff hk v).2 (hvc.2 h0)
    rw [e] at hL
    exact (wget_back m A cp w hT hok hl hc hL).mono fun r w' ⟨q, hr, _, _, _, _, _, hb⟩ => ⟨_, 0, hr, ms_size q, msg_one q, by simp [h0], .inr rfl, hb⟩
  · have hs := Ms.put_spoilt hT hk hv (fun e => h0 (hvc.1 e))
    have hlen : ((Ms.put m).set k v).length = (Ms.put m).length := List.length_set
    exact (wget_any ((Ms.put m).set k v) A _ cp w hlen.symm (by unfold maxLen; omega) hc (By.set_bytes (Ms.put_bytes hT) k hv) hL).mono fun r w' h => by
      rcases h with ⟨_, hr, hb⟩ | ⟨h, _⟩ | ⟨h, _⟩
      · exact ⟨_, 9, hr, Ms.zeroM_size, msg_zero_one, by simp [h0], .inl h0, hb⟩
      · rw [hs] at h; cases h
      · rw [hs] at h; cases h

theorem spoilt_end0 {c f : Int} (h9 : f = 9 ↔ c ≠ 0) (h0 : c ≠ 0 ∨ f = 0) (h : (f == 9) = (c != 0)) (hc : c = 0) : (f == 0) = true := by
  rcases h0 with h0 | h0
  · exact absurd hc h0
  · rw [h0]; rfl
theorem spoilt_end1 {c f : Int} (h9 : f = 9 ↔ c ≠ 0) (h0 : c ≠ 0 ∨ f = 0) (h : ¬ (f == 9) = (c != 0)) : False := by
  apply h
  by_cases hc : c = 0
  · have : f = 0 := by
      rcases h0 with h0 | h0
      · exact absurd hc h0
      · exact h0
    subst hc this; rfl
  · have : f = 9 := h9.2 hc
    subst this
    have e : (c != 0) = true := by simpa using hc
    rw [e]; rfl
set_option maxRecDepth 100000 in
set_option maxHeartbeats 4000000 in
theorem spoilt12_law (q : Ms.S) (at0 c : Int) (w : World) (hT : Ms.Ty q.m) (hL : LiesM w w.heap.size q) (hat : -9223372036854775808 ≤ at0 ∧ at0 ≤ 9223372036854775807) (hcb : 0 ≤ c ∧ c ≤ 255) :
    Calls Try.prog 5 #[.agg q.cells, .int .i64 at0, .int .u8 c] w fun e w' => e = .returned (.bool true) ∧ Below w.heap.size w w' := by
  have ct := fun X => Lib.hid (told12_any X)
  have P0 := Lib.hid (Box.made w 29 q.cells)
  have K0 := Lib.hid (one_below w (.cells q.cells 29))
  have L0 := Lib.hid (LiesM.made hL (.cells q.cells 29))
  have cf := Lib.hid (few12_any q _ L0.out)
  by_cases hg : Ms.Ok q.m ∧ (Ms.put q.m).length ≤ 1200
  · obtain ⟨hok, hl⟩ := hg
    have cp := fun X hX => Lib.hid (wput_short q X hT hok hl hX)
    have hpos : 14 ≤ (Ms.put q.m).length := by have := Ms.body_pos q.m; rw [Ms.put_len]; omega
    have cg := fun k v A n cap X hn hc hk hv hvc hX => Lib.hid (wget_turned q.m k v c A n cap X hT hok hl hn hc hk hv hvc hX)
    have hby := Ms.put_bytes hT
    generalize Ms.put q.m = bs at *
    obtain ⟨m, hm⟩ : ∃ m, m = bs.length := ⟨_, rfl⟩
    rw [← hm] at cp hpos hl
    have HM := Lib.hid hm
    have HBY := Lib.hid hby
    have hwm : IntKind.u64.wrap (m : Int) = m := by rw [IntKind.wrap_u64]; omega
    have u0 : 0 ≤ IntKind.u64.wrap at0 := by rw [IntKind.wrap_u64]; omega
    have u1 : IntKind.u64.wrap at0 ≤ 18446744073709551615 := by rw [IntKind.wrap_u64]; omega
    obtain ⟨kk, hkk, hkm⟩ : ∃ kk : Nat, RowKit.wrap64 (IntKind.u64.wrap at0 % (m : Int)) = kk ∧ kk < m := by
      have h0 : 0 ≤ IntKind.u64.wrap at0 % (m : Int) := Int.emod_nonneg _ (by omega)
      have h1 : IntKind.u64.wrap at0 % (m : Int) < m := Int.emod_lt_of_pos _ (by omega)
      refine ⟨(IntKind.u64.wrap at0 % (m : Int)).toNat, ?_, by omega⟩
      rw [IntWalk.wrap64_in _ (by omega)]; omega
    have hkl : kk < bs.length := by have := HM.out; omega
    have hbk := HBY.out bs[kk] (List.getElem_mem hkl)
    have cg1 := fun v A cap X hc hv hvc hX => cg kk v A m cap X HM.out hc hkl hv hvc hX
    have hat' : bs[kk]? = some bs[kk] := List.getElem?_eq_getElem hkl
    generalize bs[kk] = xk at hbk cg1 hat'
    obtain ⟨v, hxor, hv, hvc⟩ := By.xor_turn hbk hcb
    have cg2 := fun A cap X hc hX => cg1 v A cap X hc hv hvc hX
    have HAT := Lib.hid hat'
    have HTL := Lib.hid (show (bs.set kk v).length = m by rw [List.length_set]; exact HM.out.symm)
    have m0 : ¬ (m : Int) = 0 := by omega
    clear cg cg1 hvc hat' hbk hkl hby hm hT hok hL
    go_enter Try.func5, Try.ntmps5
    go_wp2_with (first | ((with_reducible refine ms_load rfl rfl ?_); apply LoadMs.mk rfl (by first | (with_reducible exact P0.out) | (with_reducible exact P1.out)) (ms_size _)) | (with_reducible refine alloc_msg rfl rfl ?_) | ((with_reducible refine ms_store_new rfl rfl rfl rfl Ms.zeroM_size (by with_reducible exact CS.out) (by with_reducible exact CO.out) ?_)) | (go_at_call 11; ((with_reducible refine (cf.out).mono ?_); rintro r w1 ⟨fb, rfl, hb⟩; have P1 := Lib.hid (P0.out.below hb P0.out.lt); have K1 := Lib.hid (K0.out.trans (hb.mono K0.out.size)); have L1 := Lib.hid (L0.out.on hb); cases fb; (all_goals clear hb cf))) | (go_at_call 14; ((with_reducible refine ((cp _ L1.out).out).mono ?_); rintro r w2 ⟨A2, c2, rfl, hc2, hO2, hb⟩; have K2 := Lib.hid (K1.out.trans (hb.mono K1.out.size)); obtain ⟨gg, cur, hA2, hgb, hmc, hB2, hcur⟩ := own_box hO2 (by omega); subst hA2; have sz1 := K1.out.size; have hgw : w.heap.size ≤ gg := Nat.le_trans sz1 hgb; have T2 := Lib.hid hB2; have t2 := (hB2.cell kk).trans (hcur kk _ HAT.out); have f2 := hB2.free kk; have K3 := Lib.hid (K2.out.setCell (p := ⟨gg, kk, none⟩) (show w.heap.size ≤ gg from hgw) (.int .u8 v)); have T3 := Lib.hid (T2.out.put kk (.int .u8 v)); have HC3 := Lib.hid (row_set hcur HAT.out v); have g3 := cg2 (some ⟨gg, 0, none⟩) c2 _ hc2 (T3.out.lies HTL.out HC3.out); clear hc2 hO2 hb cp hB2 hcur cg2)) | (go_at_call 19; ((with_reducible refine (g3.out).mono ?_); rintro r w4 ⟨cs, f, rfl, hcs, hco, hf9, hf0, hb⟩; have CS := Lib.hid hcs; have CO := Lib.hid hco; have K4 := Lib.hid ((K3.out.trans (hb.mono K3.out.size)).alloc (Nat.le_trans K3.out.size hb.size) (.cells cs 29)); have F9 := Lib.hid hf9; have F0 := Lib.hid hf0; clear hb g3 hcs hco hf9 hf0)) | (go_at_call 12; ((with_reducible refine ((ct _).out).mono ?_); rintro r w5 ⟨rfl, hb⟩; first | (have K5 := Lib.hid (K4.out.trans (hb.mono K4.out.size)); clear hb) | (have K5 := Lib.hid (K1.out.trans (hb.mono K1.out.size)); clear hb))))
    all_goals
      go_ret
      refine ⟨ret_bool ?_, K5.out⟩
      first
        | rfl
        | exact (spoilt_end0 F9.out F0.out (by assumption) (by assumption))
        | exact (spoilt_end1 F9.out F0.out (by assumption)).elim
  · have cp := fun X hX => Lib.hid (wput_not q X hT hg hX)
    go_enter Try.func5, Try.ntmps5
    go_wp2_with (first | ((with_reducible refine ms_load rfl rfl ?_); apply LoadMs.mk rfl (by first | (with_reducible exact P0.out) | (with_reducible exact P1.out)) (ms_size _)) | (go_at_call 11; ((with_reducible refine (cf.out).mono ?_); rintro r w1 ⟨fb, rfl, hb⟩; have P1 := Lib.hid (P0.out.below hb P0.out.lt); have K1 := Lib.hid (K0.out.trans (hb.mono K0.out.size)); have L1 := Lib.hid (L0.out.on hb); cases fb; (all_goals clear hb cf))) | (go_at_call 14; ((with_reducible refine ((cp _ L1.out).out).mono ?_); rintro r w2 ⟨k, rfl, hk, hb⟩; have K2 := Lib.hid (K1.out.trans (hb.mono K1.out.size)); clear hb cp)) | (go_at_call 12; ((with_reducible refine ((ct _).out).mono ?_); rintro r w5 ⟨rfl, hb⟩; first | (have K5 := Lib.hid (K2.out.trans (hb.mono K2.out.size)); clear hb) | (have K5 := Lib.hid (K1.out.trans (hb.mono K1.out.size)); clear hb))))
    all_goals
      go_ret
      exact ⟨rfl, K5.out⟩
end Go.Proofs.Ytgmlbimgcifenaa
