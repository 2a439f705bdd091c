/-
Several texts in one: Zg Zen Zin Eo Yg Yh.
-/
import Derived.Test.YtgmlbimgcifenaaVz7
set_option maxRecDepth 100000
set_option maxHeartbeats 8000000
set_option linter.unusedVariables false
set_option linter.unusedSimpArgs false
namespace Go.Proofs.Ytgmlbimgcifenaa
open Go.RowKit Go.Shelf
def cutIn (cs : Array Value) (o : Nat) (l : List Value) : Array Value := (cs.toList.take o ++ l ++ cs.toList.drop (o + l.length)).toArray
theorem cutIn_cons (cs : Array Value) (o : Nat) (v : Value) (l : List Value) (h : o + (l.length + 1) ≤ cs.size) : cutIn (cs.setIfInBounds o v) (o + 1) l = cutIn cs o (v :: l) := by
  unfold cutIn
  congr 1
  rw [Array.toList_setIfInBounds, List.length_cons]
  have ho : o < cs.toList.length := by rw [Array.length_toList]; omega
  rw [List.take_set, List.drop_set, if_pos (by omega), List.append_assoc, List.append_assoc]
  rw [show o + 1 + l.length = o + (l.length + 1) by omega]
  rw [List.take_add_one, List.getElem?_eq_getElem ho, Option.toList_some, List.set_append_right _ _ (by rw [List.length_take]; omega)]
  rw [List.length_take, Nat.min_eq_left (by omega), Nat.sub_self]
  simp
theorem setCells_cut (g : Nat) (t : TypeId) : ∀ (l : List Value) (o : Nat) (cs : Array Value) (w : World), w.heap[g]? = some (.cells cs t (0, 0)) → o + l.length ≤ cs.size → w.setCells g o l = w.setRow g (cutIn cs o l)
  | [], o, cs, w, hg, hl => by
    have e : cutIn cs o [] = cs := by unfold cutIn; simp
    rw [e]
    show w = _
    have hv : w.heap[g]'(Array.getElem?_eq_some_iff.1 hg).1 = .cells cs t (0, 0) := (Array.getElem?_eq_some_iff.1 hg).2
    unfold World.setRow
    cases w with
    | mk heap tape drawn os output =>
      congr 1
      apply Array.ext
      · simp
      · intro k h1 h2
        simp only [Array.getElem_modify]
        split
        · rename_i hk; subst hk; simp at hv; simp [hv]
        · rfl
  | v :: l, o, cs, w, hg, hl => by
    rw [List.length_cons] at hl
    rw [World.setCells, setCell_eq_setRow w g o cs t (0, 0) v hg, setCells_cut g t l (o + 1) _ _ (setRow_heap w g cs _ t _ hg) (by rw [Array.size_setIfInBounds]; omega), setRow_setRow, cutIn_cons cs o v l hl]
theorem cutIn_at (cs : Array Value) (o : Nat) (l : List Value) (h : o + l.length ≤ cs.size) : Im.Patch cs o l (cutIn cs o l) := fun j => by
  unfold cutIn
  rw [List.getElem?_toArray]
  have ht : (cs.toList.take o).length = o := by rw [List.length_take, Array.length_toList]; omega
  by_cases h1 : o ≤ j ∧ j < o + l.length
  · rw [if_pos h1, List.append_assoc, List.getElem?_append_right (by omega), ht, List.getElem?_append_left (by omega)]
  · rw [if_neg h1]
    by_cases h2 : j < o
    · rw [List.append_assoc, List.getElem?_append_left (by omega), List.getElem?_take, if_pos h2]; simp
    · rw [List.getElem?_append_right (by rw [List.length_append, ht]; omega), List.length_append, ht, List.getElem?_drop, show o + l.length + (j - (o + l.length)) = j by omega]; simp
theorem cutIn_size (cs : Array Value) (o : Nat) (l : List Value) (h : o + l.length ≤ cs.size) : (cutIn cs o l).size = cs.size := by
  unfold cutIn
  simp only [List.size_toArray, List.length_append, List.length_take, List.length_drop, Array.length_toList]
  omega
theorem Box.there2 {w : World} {g : Nat} {t : TypeId} {cs : Array Value} (h : Box w g t cs) (f n : Nat) (hf : f + n ≤ cs.size) : w.there g f n := fun j hj => ⟨by rw [h.cell, Array.getElem?_eq_getElem (by omega)]; rfl, h.free _⟩
section
variable {P : Program} {ops : Array Oper} {rest : List Oper} {o : Oper} {a : Act} {w : World} {Q : Exit → Act → World → Prop}
def StorePart (P : Program) (ops : Array Oper) (Q : Exit → Act → World → Prop) (rest : List Oper) (dst : Option Tmp) (p v : Value) (t : TypeId) (size : Nat) (a : Act) (w : World) : Prop :=
  ∃ (B f : Nat) (cs old : Array Value), p = .pointer (some ⟨B, f, none⟩) ∧ v = .agg cs ∧ Box w B t old ∧ f + size ≤ old.size ∧ cs.size = size ∧ cs.all (·.oneCell') = true ∧ wpList P ops Q rest (a.put dst undef) (w.setRow B (cutIn old f cs.toList))
theorem StorePart.mk {dst : Option Tmp} {p v : Value} {t : TypeId} {size : Nat} {B f : Nat} {cs old : Array Value} (hp : p = .pointer (some ⟨B, f, none⟩)) (hv : v = .agg cs) (hB : Box w B t old) (hf : f + size ≤ old.size) (hs : cs.size = size) (h1 : cs.all (·.oneCell') = true)
    (h : wpList P ops Q rest (a.put dst undef) (w.setRow B (cutIn old f cs.toList))) : StorePart P ops Q rest dst p v t size a w := ⟨B, f, cs, old, hp, hv, hB, hf, hs, h1, h⟩
theorem part_gate {t ty : TypeId} {size : Nat} {x y : Operand} (hgd : o.guard = none) (ho : o.op = .store ty x y) (hi : (P.info? ty).map (·.size) = some size) (h : StorePart P ops Q rest o.dst (a.eval x) (a.eval y) t size a w) : wpList P ops Q (o :: rest) a w := by
  obtain ⟨B, f, cs, old, hx, hy, hB, hf, hs, h1, h⟩ := h
  refine wpList_store_mid hgd ty x y ho B f cs hx hy (hB.there2 f _ (by omega)) (by rw [hi, hs]) h1 ?_
  rw [setCells_cut B t _ f old w hB.is (by rw [Array.length_toList]; omega)]
  exact h
end
theorem own_row {w : World} {base m c : Nat} {A : Option Addr} {bs : List Int} (h : w.ownsRow base 5 1 (.slice A m c) m (Im.u8s bs)) (hm : m ≠ 0) : ∃ g cur, A = some ⟨g, 0, none⟩ ∧ base ≤ g ∧ m ≤ c ∧ Box w g 5 cur ∧ ∀ (j : Nat) (x : Int), bs[j]? = some x → cur[j]? = some (Value.int .u8 x) := by
  obtain ⟨hl, ⟨_, h0⟩ | ⟨g, cap, cur, hv, hbg, hg, hnc, _, _, htake⟩⟩ := h
  · exact absurd h0 hm
  · injection hv with hA _ hc
    subst hc
    refine ⟨g, cur, hA, hbg, hnc, ⟨hg⟩, fun j x hj => ?_⟩
    have hlt : j < bs.length := (List.getElem?_eq_some_iff.1 hj).1
    have h1 : (Im.u8s bs)[j]? = some (Value.int .u8 x) := by unfold Im.u8s; rw [List.getElem?_map, hj]; rfl
    rw [← htake, List.getElem?_take] at h1
    split at h1
    · simpa using h1
    · cases h1
theorem Box.row_lies {w : World} {g m : Nat} {cur : Array Value} {bs : List Int} (h : Box w g 5 cur) (hm : bs.length = m) (hc : ∀ (j : Nat) (x : Int), bs[j]? = some x → cur[j]? = some (Value.int .u8 x)) : Lies w w.heap.size 1 (some ⟨g, 0, none⟩) m (Im.u8s bs) := by
  refine ⟨by rw [Im.u8s_len]; omega, fun _ => ⟨_, rfl, h.lt⟩, fun ad e h0 j u hu => ?_⟩
  injection e with e
  subst e
  have hadd : (⟨g, 0, none⟩ : Addr).add j = ⟨g, j, none⟩ := by unfold Addr.add; split <;> simp_all
  unfold Im.u8s at hu
  rw [List.getElem?_map] at hu
  cases hj : bs[j]? with
  | none => rw [hj] at hu; cases hu
  | some x =>
    rw [hj] at hu
    rw [hadd, h.cell j, hc j x hj]
    exact hu
theorem Kb.rowB {B : Nat} {w w' : World} (h : Kb B w w') (cs' : Array Value) : Kb B w (w'.setRow B cs') := fun g t cs hg hne h1 h2 => (h g t cs hg hne h1 h2).row_far hne cs'
theorem addr_cell (S o j : Nat) : (⟨S, o, none⟩ : Addr).add j = ⟨S, o + j, none⟩ := by unfold Addr.add; split <;> simp_all
namespace En
end En
theorem e00_ok : En.Ok ⟨0, [], En.in0⟩ := ⟨by decide, trivial, fun i _ => ⟨(by decide : (-127 : Int) ≤ 0), (by decide : (-127 : Int) ≤ 0)⟩⟩
theorem e00_put : En.put ⟨0, [], En.in0⟩ = [0, 0, 0, 0, 0, 0] := by decide +kernel
theorem wentry_w (e : En.E) (n : Nat) (A : Option Addr) (c P o : Nat) (Y : Array Value) (bs : List Int) (b Bb Bp : Nat) (w : World) (hn : n = e.evs.length) (hok : En.Ok e) (hty : En.Ty e) (hbB : b ≤ Bb) (hbP : b ≤ P) (hbw : b ≤ w.heap.size) (h : Wr b Bb Bp bs w) (hl : bs.length + 2 + (En.put e).length ≤ 65536) (hP : Box w P 53 Y) (hsz : o + 26 ≤ Y.size)
    (hc : ∀ j v, (En.cells e (.slice A n c)).toList[j]? = some v → Y[o + j]? = some v) (hL : Lies w b 4 A n (En.evCells e.evs)) :
    Calls Try.prog 81 #[.func (.func 54) #[] #[.pointer (some ⟨Bp, 0, none⟩)], .pointer (some ⟨P, o, none⟩)] w fun r w' => r = .returned (.tuple #[]) ∧ Wr b Bb Bp (bs ++ (Im.bytesOf 2 (En.put e).length ++ En.put e)) w' ∧ Below b w w' ∧ Kb P w w' ∧ VarK Bb P w w' ∧ ∃ Y', Box w' P 53 Y' ∧ Y'.size = Y.size ∧ ∀ j, (j < o ∨ o + 26 ≤ j) → Y'[j]? = Y[j]? := by
  obtain ⟨e', hg, hlike⟩ := En.get_put hok hty
  have c1 := qh (enput_yes e A n c w hok hty.ins hn (hL.wider hbw))
  have hcell : ∀ j v, (En.cells e (.slice A n c)).toList[j]? = some v → w.cell? ((⟨P, o, none⟩ : Addr).add j) = some v := fun j v hv => by rw [addr_cell, hP.cell]; exact hc j v hv
  have hsl : (En.cells e (.slice A n c)).toList.length = 26 := by rw [Array.length_toList, En.cells_size]
  have ple := En.put_le hok.count
  have HP := qh hP
  have HW := qh h
  have PB := qh (En.put_bytes e)
  have HBW := qh hbw
  have HLI := qh hlike
  have HG := qh hg
  have p6 : 6 ≤ (En.put e).length := by unfold En.put; simp only [List.length_append, Im.bytesOf_len]; omega
  obtain ⟨m, hm⟩ : ∃ m, m = (En.put e).length := ⟨_, rfl⟩
  rw [← hm] at c1 ple p6 hl ⊢
  have HM := qh hm.symm
  have ltP := hP.lt
  have ltB := h.var_lt
  clear hP h hlike hg hm hL hc hn
  go_enter Try.func81, Try.ntmps81
  go_upto_region 1 with (first | ((with_reducible refine load_at_gate rfl rfl Try.underlying53 rfl en_info ?_); apply LoadAt.mk rfl hcell hsl; rw [Array.toArray_toList]) | (go_at_call 88; ((with_reducible refine (c1.out).mono ?_); rintro r w1 ⟨A1, k1, rfl, hk1, hli, how, hb⟩; have O1 := qh how; have B1 := qh hb; have k6 : Hid (m ≤ k1) := qh hk1; clear hli how hb hk1 c1)))
  obtain ⟨g, cur, hA, hbg, hmc, hgB, hcur⟩ := own_row O1.out (by omega)
  have sz1 := B1.out.size
  have V2 := qh (Box.made w1 27 #[.slice A1 m k1])
  have v2 := V2.out.cell 0
  have W2 := qh ((HW.out.call B1.out).alloc (.cells #[.slice A1 m k1] 27))
  have P2 := qh ((HP.out.below B1.out ltP).alloc (.cells #[.slice A1 m k1] 27))
  have F2 := qh (((HW.out.far_new hbg).call B1.out ltB).call (one_below w1 (.cells #[.slice A1 m k1] 27)) (by omega))
  have c2 := qh (listby_w (En.put e) m A1 k1 2 2 rfl w1.heap.size 0 27 #[.slice A1 m k1] bs b Bb Bp (w1.alloc (.cells #[.slice A1 m k1] 27)) HM.out (by omega) (by decide) hbB (by omega) (by simp; omega) W2.out (by rw [HM.out]; omega) V2.out (by omega) PB.out rfl (fun X _ hF => by rw [hA]; exact (hF g cur (hgB.alloc _) F2.out).1.row_lies HM.out hcur) (by decide) (by decide))
  have c3 := fun (X : World) S (hS : Box X S 5 (Im.u8s (En.put e)).toArray) => qh (enget_any (En.put e) (some ⟨S, 0, none⟩) m m X HM.out.symm (Nat.le_refl _) PB.out (Lies.boxed hS (by rw [Im.u8s_len, HM.out]; omega)))
  have K1 := qh (((Kb.refl (B := P) w).call B1.out).call (one_below w1 (.cells #[.slice A1 m k1] 27)))
  have VK1 := qh (((VarK.refl (Bb := Bb) (P := P) w).call B1.out).call (one_below w1 (.cells #[.slice A1 m k1] 27)))
  have D1 := qh ((B1.out.mono hbw).alloc (by omega) (.cells #[.slice A1 m k1] 27))
  clear hgB hcur hA hbg hmc
  go_upto_region 3 with (first | (go_at_call 83; ((with_reducible refine (c2.out).mono ?_); rintro r w3 ⟨rfl, hI, hB, hK, hVK, S, hS, hV, hE⟩; have VK3 := qh (VK1.out.fresh hVK sz1); have I3 := qh hI; have B3 := qh (D1.out.trans hB); have K3 := qh (K1.out.fresh hK sz1); have P3 := qh (hK P _ _ P2.out (by omega) (by decide) (by decide)); have E3 := qh hE; have v3 := hV.cell 0; clear hI hB hK hVK hE c2 v2)) | (go_at_call 89; ((with_reducible refine ((c3 w3 S E3.out).out).mono ?_); rintro r w4 (⟨e2, S2, hg2, rfl, hE2, hB4⟩ | ⟨hg2, rfl, hB4⟩); (all_goals first | (have G4 := qh hg2; have B4 := qh hB4; clear hE2 hB4 hg2) | (exfalso; have := HG.out; rw [this] at hg2; cases hg2)))) | (with_reducible refine alloc_en rfl rfl ?_) | ((with_reducible refine en_store_new rfl rfl rfl rfl rfl rfl ?_)))
  have V5 := qh (Box.made w4 53 (En.cells e2 (.slice (some ⟨S2, 0, none⟩) e2.evs.length e2.evs.length)))
  have P5 := qh ((P3.out.below B4.out P3.out.lt).alloc (.cells (En.cells e2 (.slice (some ⟨S2, 0, none⟩) e2.evs.length e2.evs.length)) 53))
  have I5 := qh ((I3.out.call B4.out).alloc (.cells (En.cells e2 (.slice (some ⟨S2, 0, none⟩) e2.evs.length e2.evs.length)) 53))
  have B5 := qh ((B3.out.trans (B4.out.mono (Nat.le_trans hbw B3.out.size))).alloc (Nat.le_trans hbw (Nat.le_trans B3.out.size B4.out.size)) (.cells (En.cells e2 (.slice (some ⟨S2, 0, none⟩) e2.evs.length e2.evs.length)) 53))
  have K5 := qh ((K3.out.call B4.out).call (one_below w4 (.cells (En.cells e2 (.slice (some ⟨S2, 0, none⟩) e2.evs.length e2.evs.length)) 53)))
  have VK5 := qh ((VK3.out.call B4.out).call (one_below w4 (.cells (En.cells e2 (.slice (some ⟨S2, 0, none⟩) e2.evs.length e2.evs.length)) 53)))
  clear c3 v3 hV
  go_wp2_with (first | (go_at_call 30; ((with_reducible refine (need_yes _ _).mono ?_); rintro r wn ⟨rfl, rfl⟩)) | ((with_reducible refine en_load rfl rfl ?_); apply LoadEn.mk rfl; (focus (with_reducible exact V5.out)); dsimp only) | ((with_reducible refine part_gate (t := 53) rfl rfl en_info ?_); (go_loud (apply StorePart.mk rfl rfl P5.out hsz (En.cells_size _ _) (En.cells_one _ _ rfl)))))
  go_end0
  have hlen : o + (En.cells e2 (.slice (some ⟨S2, 0, none⟩) e2.evs.length e2.evs.length)).toList.length ≤ Y.size := by rw [Array.length_toList, En.cells_size]; exact hsz
  refine ⟨rfl, I5.out.offRow P5.out (by decide) (by decide) (by decide) _, Below.setRow' B5.out hbP _, K5.out.rowB _, VK5.out.rowB _, _, P5.out.row _, cutIn_size _ _ _ hlen, fun j hj => ?_⟩
  have hp := cutIn_at Y o (En.cells e2 (.slice (some ⟨S2, 0, none⟩) e2.evs.length e2.evs.length)).toList hlen
  rw [hp j, if_neg (by rw [Array.length_toList, En.cells_size]; omega)]
def decEntryW (bs : List Int) : Option (En.E × List Int) := (Im.getB 2 bs).bind fun q => (En.get q.1).bind fun e => some (e, q.2)
def GoodEn (w : World) (e : En.E) (C : List Value) : Prop := ∃ S, C = (En.cells e (.slice (some ⟨S, 0, none⟩) e.evs.length e.evs.length)).toList ∧ Box w S 59 (En.evCells e.evs).toArray
def GotEnW (b Bb Bp P o : Nat) (Y : Array Value) (bs : List Int) (w : World) (r : Ending) (w' : World) : Prop :=
      (∃ e rest C, decEntryW bs = some (e, rest) ∧ r = .returned (.tuple #[]) ∧ Im.IsBytes rest ∧ Rd b Bb Bp rest w' ∧ Rk b Bb P w w' ∧ C.length = 26 ∧ GoodEn w' e C ∧ ∃ Y', Box w' P 53 Y' ∧ Im.Patch Y o C Y') ∨
      (decEntryW bs = none ∧ Pan r ∧ Rk b Bb P w w')
theorem wentry_r (P o : Nat) (Y : Array Value) (bs : List Int) (b Bb Bp : Nat) (w : World) (hBy : Im.IsBytes bs) (hbB : b ≤ Bb) (hbP : b ≤ P) (hbw : b ≤ w.heap.size) (h : Rd b Bb Bp bs w) (hP : Box w P 53 Y) (hsz : o + 26 ≤ Y.size)
    (hc : ∀ j v, En.zeroC.toList[j]? = some v → Y[o + j]? = some v) :
    Calls Try.prog 81 #[.func (.func 60) #[] #[.pointer (some ⟨Bp, 0, none⟩)], .pointer (some ⟨P, o, none⟩)] w (GotEnW b Bb Bp P o Y bs w) := by
  have c1 := qh (enput_yes ⟨0, [], En.in0⟩ none 0 0 w e00_ok (fun i _ => show Gm.tyIn ⟨0, 0, 0⟩ by unfold Gm.tyIn; decide) rfl Lies.empty)
  rw [e00_put, show En.cells ⟨0, [], En.in0⟩ (.slice none 0 0) = En.zeroC from rfl] at c1
  have hcell : ∀ j v, En.zeroC.toList[j]? = some v → w.cell? ((⟨P, o, none⟩ : Addr).add j) = some v := fun j v hv => by rw [addr_cell, hP.cell]; exact hc j v hv
  have HP := qh hP
  have HW := qh h
  have HY := qh hBy
  have ltP := hP.lt
  have ltB : Bb < w.heap.size := by obtain ⟨A, n, c, hv⟩ := h.isvar; exact hv.lt
  clear hP h hc hBy
  go_enter Try.func81, Try.ntmps81
  go_upto_region 1 with (first | ((with_reducible refine load_at_gate rfl rfl Try.underlying53 rfl en_info ?_); apply LoadAt.mk rfl hcell rfl; rw [Array.toArray_toList]) | (go_at_call 88; ((with_reducible refine (c1.out).mono ?_); rintro r w1 ⟨A1, k1, rfl, hk1, hli, how, hb⟩; have O1 := qh how; have B1 := qh hb; have k6 : Hid (6 ≤ k1) := qh hk1; clear hli how hb hk1 c1)))
  obtain ⟨g, cur, hA, hbg, hmc, hgB, hcur⟩ := own_row O1.out (by decide)
  have sz1 := B1.out.size
  have V2 := qh (Box.made w1 27 #[.slice A1 6 k1])
  have v2 := V2.out.cell 0
  have W2 := qh ((HW.out.call B1.out hbw).call (one_below w1 (.cells #[.slice A1 6 k1] 27)) (by omega))
  have P2 := qh ((HP.out.below B1.out ltP).alloc (.cells #[.slice A1 6 k1] 27))
  have c2 := qh (listby_r [0, 0, 0, 0, 0, 0] A1 6 k1 2 2 rfl w1.heap.size 0 27 #[.slice A1 6 k1] bs b Bb Bp (w1.alloc (.cells #[.slice A1 6 k1] 27)) HY.out (by decide) hbB (by omega) (by simp; omega) W2.out V2.out (by omega) (by decide) rfl (fun X hF => by rw [hA]; exact (hF g _ cur (by omega) (hgB.alloc _)).row_lies rfl hcur) (by decide) (by decide))
  have K1 := qh (show Rk b Bb P w (w1.alloc (.cells #[.slice A1 6 k1] 27)) from ⟨(B1.out.mono hbw).alloc (by omega) _, ((Kb.refl (B := P) w).call B1.out).call (one_below w1 _)⟩)
  have hD := qh (show decEntryW bs = (Im.getB 2 bs).bind fun q => (En.get q.1).bind fun e => some (e, q.2) from rfl)
  clear hcur hA hbg hmc
  go_upto_region 2 with (go_at_call 83; ((with_reducible refine (c2.out).mono ?_); rintro r w3 (⟨l, rest, S, hr, rfl, hyl, hyr, hl6, hI, hK, hS, hV, hE, hO⟩ | ⟨hr, ⟨ss, rfl⟩, hK, hV⟩); (all_goals first | (have R3 := qh hr; have YL := qh hyl; have YR := qh hyr; have I3 := qh hI; have K3 := qh (K1.out.local hK sz1); have P3 := qh (hK.kb P _ _ P2.out (by omega) (by decide) (by decide)); have E3 := qh hE; have v3 := hV.cell 0; clear hr hyl hyr hI hK hV hE hO c2 v2) | (have N3 := qh hr; have K3 := qh (K1.out.local hK sz1); clear hr hK hV c2 v2))))
  rotate_left
  · exact ⟨rfl, .inr ⟨by rw [hD.out, N3.out]; rfl, ⟨_, rfl⟩, K3.out⟩⟩
  have c3 := qh (enget_any l (some ⟨S, 0, none⟩) l.length l.length w3 rfl (Nat.le_refl _) YL.out (Lies.boxed E3.out (by rw [Im.u8s_len]; omega)))
  have lt3 := P3.out.lt
  have bw3 := Nat.le_trans hbw K3.out.below.size
  go_upto_region 3 with (first | (go_at_call 89; ((with_reducible refine (c3.out).mono ?_); rintro r w4 (⟨e2, S2, hg2, rfl, hE2, hB4⟩ | ⟨hg2, rfl, hB4⟩); (all_goals first | (have G4 := qh hg2; have B4 := qh hB4; have E4 := qh hE2; clear hE2 hB4 hg2 c3) | (have G4 := qh hg2; have B4 := qh hB4; clear hB4 hg2 c3)))) | (with_reducible refine alloc_en rfl rfl ?_) | ((with_reducible refine en_store_new rfl rfl rfl rfl rfl rfl ?_)) | (refine wpList_store_new rfl rfl rfl rfl rfl rfl en_info26 rfl en_zero_one ?_))
  · have V5 := qh (Box.made w4 53 (En.cells e2 (.slice (some ⟨S2, 0, none⟩) e2.evs.length e2.evs.length)))
    have P5 := qh ((P3.out.below B4.out lt3).alloc (.cells (En.cells e2 (.slice (some ⟨S2, 0, none⟩) e2.evs.length e2.evs.length)) 53))
    have I5 := qh ((I3.out.call B4.out bw3).call (one_below w4 (.cells (En.cells e2 (.slice (some ⟨S2, 0, none⟩) e2.evs.length e2.evs.length)) 53)) (Nat.le_trans bw3 B4.out.size))
    have B5 := qh ((K3.out.below.trans (B4.out.mono bw3)).alloc (Nat.le_trans bw3 B4.out.size) (.cells (En.cells e2 (.slice (some ⟨S2, 0, none⟩) e2.evs.length e2.evs.length)) 53))
    have K5 := qh ((K3.out.kb.call B4.out).call (one_below w4 (.cells (En.cells e2 (.slice (some ⟨S2, 0, none⟩) e2.evs.length e2.evs.length)) 53)))
    have E5 := qh (E4.out.alloc (.cells (En.cells e2 (.slice (some ⟨S2, 0, none⟩) e2.evs.length e2.evs.length)) 53))
    clear v3
    go_wp2_with (first | (go_at_call 30; ((with_reducible refine (need_yes _ _).mono ?_); rintro r wn ⟨rfl, rfl⟩)) | ((with_reducible refine en_load rfl rfl ?_); apply LoadEn.mk rfl; (focus (with_reducible exact V5.out)); dsimp only) | ((with_reducible refine part_gate (t := 53) rfl rfl en_info ?_); apply StorePart.mk rfl rfl P5.out hsz (En.cells_size _ _) (En.cells_one _ _ rfl)))
    go_end0
    have hlen : o + (En.cells e2 (.slice (some ⟨S2, 0, none⟩) e2.evs.length e2.evs.length)).toList.length ≤ Y.size := by rw [Array.length_toList, En.cells_size]; exact hsz
    refine .inl ⟨e2, rest, _, by rw [hD.out, R3.out, Option.bind_some, G4.out, Option.bind_some], rfl, YR.out, I5.out.offRow P5.out (by decide) (by decide) hbP _, ⟨Below.setRow' B5.out hbP _, K5.out.rowB _⟩, by rw [Array.length_toList, En.cells_size], ⟨S2, rfl, E5.out.row_far (Box.apart E5.out P5.out (by decide)) _⟩, _, P5.out.row _, cutIn_at _ _ _ hlen⟩
  · go_wp2_with (go_at_call 30; ((with_reducible refine (need_no _ _).mono ?_); rintro r wn ⟨rfl, rfl⟩))
    exact ⟨rfl, .inr ⟨by rw [hD.out, R3.out, Option.bind_some, G4.out]; rfl, ⟨_, rfl⟩, ⟨(K3.out.below.trans (B4.out.mono bw3)).alloc (Nat.le_trans bw3 B4.out.size) _, (K3.out.kb.call B4.out).call (one_below w4 _)⟩⟩⟩
end Go.Proofs.Ytgmlbimgcifenaa
namespace Go.Proofs.Ytgmlbimgcifenaa
open Go.RowKit Go.Shelf
theorem zen_infoZ : (Try.prog.info? 53).map (fun i => (i.zero, i.size, i.bytes)) = some (some (Value.agg En.zeroC), 26, 56) := by kernel_rfl
theorem zen_sz : (Try.prog.info? 53).map (·.size) = some 26 := by kernel_rfl
theorem listzen_w (C : List Value) (ys : List (List Int)) (n : Nat) (A : Option Addr) (c size : Nat) (z : Int) (hz : z = size) (P o : Nat) (t : TypeId) (cs : Array Value) (bs : List Int) (b Bb Bp : Nat) (w : World) (hn : ys.length = n) (hn16 : n ≤ 4096) (hs : size ≤ 8) (hbB : b ≤ Bb) (hbP : b ≤ P) (hbw : b ≤ w.heap.size) (h : Wr b Bb Bp bs w) (hl : bs.length + size + ys.flatten.length ≤ 65536) (hP : Box w P t cs)
    (ho : cs[o]? = some (.slice A n c)) (hL : Lies w b 26 A n C) (hone : ∀ u ∈ C, u.oneCell' = true) (h1 : t ≠ 27) (h2 : t ≠ 5) (h3 : t ≠ 68) (hc : EachW 81 53 26 C ys b Bb Bp w) :
    Calls Try.prog 80 #[.func (.func 54) #[] #[.pointer (some ⟨Bp, 0, none⟩)], .int .i64 z, .pointer (some ⟨P, o, none⟩), .func (.func 81) #[] #[]] w fun e w' => e = .returned (.tuple #[]) ∧ Wr b Bb Bp (bs ++ (Im.bytesOf size n ++ ys.flatten)) w' ∧ Below b w w' ∧ Kb P w w' ∧ VarK Bb P w w' ∧ ∃ S, Box w' P t (cs.setIfInBounds o (.slice (some ⟨S, 0, none⟩) n n)) := by
  subst hz
  have k0 := hP.cell o
  rw [ho] at k0
  have ltP := hP.lt
  have hwn : IntKind.u64.wrap (n : Int) = n := by rw [IntKind.wrap_u64]; omega
  have HL := qh (Box.made w 3 #[.int .i64 n])
  have HPA := qh (hP.alloc (.cells #[.int .i64 n] 3))
  have HA := qh (h.alloc (.cells #[.int .i64 n] 3))
  have WA := qh ((Wrote.refl hbB w).alloc (.cells #[.int .i64 n] 3))
  have KA := qh ((Kb.refl (B := P) w).call (one_below w (.cells #[.int .i64 n] 3)))
  have VA := qh ((VarK.refl (Bb := Bb) (P := P) w).call (one_below w (.cells #[.int .i64 n] 3)))
  have c1 := qh (layint_w size size rfl n w.heap.size 0 3 #[.int .i64 n] bs b Bb Bp _ hs (by omega) hbB HA.out (by omega) HL.out rfl (by decide) (by decide) (by decide))
  rw [hwn] at c1
  have hvar := qh HA.out.isvar
  have HO := qh ho
  have HLs := qh hL
  obtain ⟨i0, hi0, hz0, hz1, hz2⟩ := info_parts zen_infoZ
  obtain ⟨Z, hZ⟩ : ∃ Z, Z = madeCells (Value.agg En.zeroC).cells (n * 26) := ⟨_, rfl⟩
  have hZs : Z.size = n * 26 := by rw [hZ, size_madeCells]
  have hCs : C.length = n * 26 := hL.len
  have hmk : ∀ W : World, (Instr.makeSlice 26 (.int .i64 (n : Int)) (.int .i64 (n : Int))).run Try.prog W = .ok (.slice (some ⟨W.heap.size, 0, none⟩) n n) (W.alloc (.cells Z 53)) := fun W => by
    have := run_make (P := Try.prog) W 26 53 i0 _ Try.underlying26 hi0 hz0 .i64 .i64 n n (by omega) (Int.le_refl _) (by rw [hz2]; omega) (by omega)
    rw [this, hZ, hz1, Int.toNat_natCast]
  have hcp : ∀ W : World, Lies W W.heap.size 26 A n C → (Builtin.copy_ #[26, 26] 3 #[.slice (some ⟨W.heap.size, 0, none⟩) n n, .slice A n c]).run Try.prog (W.alloc (.cells Z 53)) = .ok (.int .i64 n) (W.alloc (.cells C.toArray 53)) := fun W hW => by
    cases A with
    | none =>
      have hn0 : n = 0 := by
        by_cases h0 : n = 0
        · exact h0
        · obtain ⟨ad, e, _⟩ := hW.start h0
          cases e
      have hl0 : C = [] := List.eq_nil_of_length_eq_zero (by omega)
      have hz : Z = #[] := Array.eq_empty_of_size_eq_zero (by omega)
      have := run_copy_nought (P := Try.prog) (W.alloc (.cells Z 53)) 26 26 3 53 ⟨W.heap.size, 0, none⟩ n n c Try.underlying26 (by rw [Option.isSome_map]; rw [hi0]; rfl)
      rw [hn0] at this ⊢
      rw [hl0]
      rw [hz] at this ⊢
      simpa [goInt] using this
    | some ad =>
      have hc : ∀ j v, C[j]? = some v → (W.alloc (.cells Z 53)).cell? (ad.add j) = some v := fun j v hv => by
        have hn0 : n ≠ 0 := fun e => by
          have := (List.getElem?_eq_some_iff.1 hv).1
          omega
        exact (hW.below (one_below W (.cells Z 53))).cell ad rfl hn0 j v hv
      have := run_copy_rows (P := Try.prog) (W.alloc (.cells Z 53)) 26 26 3 53 26 W.heap.size n n ad n c Z 53 C Try.underlying26 zen_sz (Box.made W _ _).is (by rw [hW.len]; simp) hc (by rw [hW.len, hZs]) hone
      rw [World.setRow_alloc_new] at this
      simpa [goInt] using this
  have NL := qh hn
  have HC := qh hc
  have HCS := qh hCs
  clear h hP ho hL hZ hn hc hCs
  go_enter Try.func80, Try.ntmps80
  go_upto_region 2 with (go_at_call 51; ((with_reducible refine (c1.out).mono ?_); rintro e w1 ⟨rfl, hI1, hK1⟩; have L1 := HL.out.wrote' hK1 hvar.out (by decide) (by decide); have l1 := L1.cell 0; have P1 := qh (HPA.out.wrote' hK1 hvar.out h1 h2); have I1 := qh hI1; have K1 := qh (WA.out.trans hK1); have B1 := qh (KA.out.wrote hK1 hvar.out); have V1 := qh (VA.out.wrote hK1); clear hI1 hK1 L1 k0))
  have lw1 := (HLs.out.below (K1.out.to hbw))
  have hcpw := hcp w1 (lw1.wider (Nat.le_trans hbw K1.out.size))
  have p58 : ∀ x, (w1.alloc x).cell? ⟨P, o, none⟩ = some (.slice A n c) := fun x => ((P1.out.alloc x).cell o).trans HO.out
  have sz1 : w.heap.size ≤ w1.heap.size := K1.out.size
  clear hcp lw1 HLs HL HPA HA WA KA VA c1
  go_upto_region 4 with fail
  obtain ⟨U, hU⟩ : ∃ U, U = w1.alloc (.cells C.toArray 53) := ⟨_, rfl⟩
  have PU : Box U P t cs := by rw [hU]; exact P1.out.alloc _
  have SU : Box U w1.heap.size 53 C.toArray := by rw [hU]; exact Box.made w1 _ _
  have IU : Wr b Bb Bp (bs ++ Im.bytesOf size n) U := by rw [hU]; exact I1.out.alloc _
  have BU : Below b w U := by rw [hU]; exact (K1.out.to hbw).alloc (Nat.le_trans hbw sz1) _
  have KU : Kb P w U := by rw [hU]; exact B1.out.call (one_below _ _)
  have VU : VarK Bb P w U := by rw [hU]; exact V1.out.call (one_below _ _)
  have hSP : w1.heap.size ≠ P := by have := P1.out.lt; omega
  have hbS : b ≤ w1.heap.size := Nat.le_trans hbw sz1
  have hSw : w.heap.size ≤ w1.heap.size := sz1
  rw [← hU]
  generalize w1.heap.size = S at *
  have IU := qh IU
  have PU := qh PU
  have SU := qh SU
  have BU := qh BU
  have KU := qh KU
  have VU := qh VU
  clear hU I1 K1 P1 B1 V1 p58 hcpw hmk l1 hvar sz1
  go_upto_region 5 with fail
  go_loopw [10, 27] (fun _ i wr => ∃ k : Nat, k ≤ n ∧ i = .int .i64 k ∧ Wr b Bb Bp (bs ++ Im.bytesOf size n ++ (ys.take k).flatten) wr ∧ Below b U wr ∧ Kb S U wr ∧ VarK Bb S U wr ∧ ∃ Y, Box wr S 53 Y ∧ Y.size = C.length ∧ ∀ j, k * 26 ≤ j → Y[j]? = C[j]?) (fun _ i _ => n - (intOf i).toNat)
  case atStart => exact ⟨0, by omega, rfl, by simpa using IU.out, Below.refl _ _, Kb.refl _, VarK.refl _, _, SU.out, by simp, fun j _ => by simp⟩
  case round =>
    obtain ⟨k, hk, rfl, hI, hB, hK, hVK, Y, hY, hYs, hYc⟩ := hrel
    by_cases hlt : k < n
    · have hk8 : (k : Int) < n := by omega
      have hkl : k < ys.length := by have := NL.out; omega
      have ht := Im.flat_take hkl
      have hle := Im.flat_le ys (k + 1)
      rw [ht, List.length_append] at hle
      have HT := qh ht
      have cc := qh (HC.out k S wr Y (bs ++ Im.bytesOf size n ++ (ys.take k).flatten) hkl (BU.out.trans hB) hbS hI (by rw [List.length_append, List.length_append, Im.bytesOf_len]; omega) hY (fun j hj => hYc _ (by omega)))
      have HB := qh hB
      have HK := qh hK
      have HVK := qh hVK
      have HYs := qh hYs
      have HYc := qh hYc
      clear ht hle hI hB hK hVK hYs hYc hY
      go_wp2_with (go_at_call 81; ((with_reducible refine (cc.out).mono ?_); rintro e w3 ⟨rfl, hI, hB, hK, hVK, Y', hY, hYs, hYc⟩; have V3 := qh (HVK.out.trans hVK); have I3 := qh hI; have B3 := qh (HB.out.trans hB); have K3 := qh (HK.out.trans hK); have Y3 := qh hY; have Z3 := qh (hYs.trans HYs.out); have C3 := qh hYc; clear hI hB hK hVK hY hYs hYc))
      go_roundw
      case rel => exact ⟨k + 1, by omega, by go_num, by rw [HT.out, ← List.append_assoc]; exact I3.out, B3.out, K3.out, V3.out, Y', Y3.out, Z3.out, fun j hj => by rw [C3.out j (by omega)]; exact HYc.out j (by omega)⟩
      case measure => simp [intOf]; omega
    · have hk8 : ¬ (k : Int) < n := by omega
      obtain rfl : k = n := by omega
      have ht : ys.take k = ys := List.take_of_length_le (by have := NL.out; omega)
      rw [ht] at hI
      have HI := qh hI
      have HK := qh hK
      have HB := qh hB
      have HVK := qh hVK
      have PW := qh (hK P t cs PU.out hSP.symm h1 h2)
      have pc : wr.cell? ⟨P, o, none⟩ = some (.slice A k c) := (PW.out.cell o).trans HO.out
      have pf : wr.frozen? ⟨P, o, none⟩ = false := PW.out.free o
      clear hI hK hB hVK hY hYs hYc
      go_wp2
      go_end0
      exact ⟨rfl, by rw [← List.append_assoc]; exact HI.out.off (p := ⟨P, o, none⟩) PW.out h3 h1 h2 _, (BU.out.trans HB.out).setCell hbP _, (KU.out.fresh HK.out hSw).put o _, (VU.out.fresh HVK.out hSw).put o _, S, PW.out.put o _⟩
theorem listzen_r {α : Type} (dec : List Int → Option (α × List Int)) (Good : World → α → List Value → Prop) (size : Nat) (z : Int) (hz : z = size) (P o : Nat) (t : TypeId) (cs : Array Value) (bs : List Int) (b Bb Bp : Nat) (w : World) (hBy : Im.IsBytes bs) (hs : 1 ≤ size ∧ size ≤ 2) (hbB : b ≤ Bb) (hbP : b ≤ P) (hbw : b ≤ w.heap.size) (h : Rd b Bb Bp bs w) (hP : Box w P t cs)
    (ho : cs[o]? = some (.slice none 0 0)) (h1 : t ≠ 27) (h2 : t ≠ 5) (h3 : t ≠ 68)
    (hG1 : ∀ X X' S Y v C, Box X S 53 Y → Kb S X X' → Good X v C → Good X' v C) (hG2 : ∀ X X' Y v C, Box X P t Y → Kb P X X' → Good X v C → Good X' v C)
    (hc : EachR 81 53 26 (Value.agg En.zeroC).cells.toList dec Good b Bb Bp w) :
    Calls Try.prog 80 #[.func (.func 60) #[] #[.pointer (some ⟨Bp, 0, none⟩)], .int .i64 z, .pointer (some ⟨P, o, none⟩), .func (.func 81) #[] #[]] w (GotL 53 26 (Im.decL size dec bs) Good b Bb Bp P o t cs w) := by
  subst hz
  have k0 := hP.cell o
  rw [ho] at k0
  have ltP := hP.lt
  have HPA := qh (hP.alloc (.cells #[.int .i64 0] 3))
  have HKA := qh (Rk.alloc (w := w) (Bb := Bb) (P := P) hbw (.cells #[.int .i64 0] 3))
  have c1 := qh (part_int size size rfl 0 w.heap.size 0 3 #[.int .i64 0] bs b Bb Bp _ (by omega) hBy hbB hbw (by simp <;> omega) (h.call (one_below w (.cells #[.int .i64 0] 3)) hbw) (Box.made w 3 #[.int .i64 0]) rfl (by decide) (by decide) (by decide))
  obtain ⟨i0, hi0, hz0, hz1, hz2⟩ := info_parts zen_infoZ
  have hmk : ∀ (n : Nat), n < 65536 → ∀ W : World, (Instr.makeSlice 26 (.int .i64 (n : Int)) (.int .i64 (n : Int))).run Try.prog W = .ok (.slice (some ⟨W.heap.size, 0, none⟩) n n) (W.alloc (.cells (madeCells (Value.agg En.zeroC).cells (n * 26)) 53)) := fun n hn W => by
    have := run_make (P := Try.prog) W 26 53 i0 _ Try.underlying26 hi0 hz0 .i64 .i64 n n (by omega) (Int.le_refl _) (by rw [hz2]; omega) (by omega)
    rw [this, hz1, Int.toNat_natCast]
  have hcp : ∀ (n : Nat) (Z : Array Value) (W : World), (Builtin.copy_ #[26, 26] 3 #[.slice (some ⟨W.heap.size, 0, none⟩) n n, .slice none 0 0]).run Try.prog (W.alloc (.cells Z 53)) = .ok (.int .i64 0) (W.alloc (.cells Z 53)) := fun n Z W => by
    have := run_copy_nought (P := Try.prog) (W.alloc (.cells Z 53)) 26 26 3 53 ⟨W.heap.size, 0, none⟩ n n 0 Try.underlying26 (by rw [Option.isSome_map]; rw [hi0]; rfl)
    simpa [goInt] using this
  have HO := qh ho
  have HB := qh hbP
  have HW := qh hbw
  have HY := qh hBy
  have HC := qh hc
  have G1 := qh hG1
  have G2 := qh hG2
  have HS := qh hs
  clear h hP ho hBy hc hG1 hG2 hs
  go_enter Try.func80, Try.ntmps80
  go_upto_region 2 with (go_at_call 51; ((with_reducible refine (c1.out).mono ?_); rintro r w1 (⟨m, r1, hr, rfl, hI, hK, hB1⟩ | ⟨hn, ⟨ss, rfl⟩, hK, cs', hB1, hs⟩); (all_goals first | (have R1 := qh hr; have Y1 := qh (Im.rdn_inv HY.out hr); have l1 := hB1.cell 0; have P1 := qh (hK.kb _ _ _ HPA.out (by omega) h1 h2); have I1 := qh hI; have K1 := qh (HKA.out.local hK (Nat.le_refl _)); clear hr hI hK hB1 c1 k0) | (have N1 := qh hn; have F1 := qh (HKA.out.local hK (Nat.le_refl _)); have Q1 := qh (hK.kb _ _ _ HPA.out (by omega) h1 h2); clear hn hK hB1 hs c1 k0))))
  rotate_left
  · refine ⟨rfl, .inr ⟨?_, ⟨_, rfl⟩, F1.out, Q1.out⟩⟩
    unfold Im.decL
    rw [N1.out, Option.bind_none]
  obtain ⟨n, hmn⟩ : ∃ n : Nat, m = n := ⟨m.toNat, by have := Y1.out.2.1; omega⟩
  subst hmn
  have hn256 : n < 65536 := by
    have h1 := Y1.out.2.2.1
    have h2 : (2 : Int) ^ (8 * size) ≤ 2 ^ 16 := by
      have := Nat.pow_le_pow_right (show 0 < 2 by decide) (show 8 * size ≤ 16 by have := HS.out; omega)
      exact_mod_cast this
    omega
  have HDE := qh (show Im.decL size dec bs = Im.decFrom dec [] n r1 by unfold Im.decL; rw [R1.out, Option.bind_some, Int.toNat_natCast, Im.decFrom_nil])
  simp only [List.getElem?_toArray, Array.setIfInBounds, List.size_toArray, List.length_cons, List.length_nil, Nat.zero_add, Nat.lt_add_one, dite_true, List.set_toArray, List.set_cons_zero, List.getElem?_cons_zero] at l1
  have hmkn := hmk n hn256
  obtain ⟨Z, hZ⟩ : ∃ Z, Z = madeCells (Value.agg En.zeroC).cells (n * 26) := ⟨_, rfl⟩
  rw [← hZ] at hmkn
  have HZ := qh (show ∀ j, Z[j]? = if j < 0 * 26 then ([] : List (List Value)).flatten[j]? else if j < n * 26 then (Value.agg En.zeroC).cells.toList[j % 26]? else none from by rw [hZ]; exact made_rows (Value.agg En.zeroC).cells n (by decide))
  have hcpw := hcp n Z w1
  have p58 : ∀ x, (w1.alloc x).cell? ⟨P, o, none⟩ = some (.slice none 0 0) := fun x => ((P1.out.alloc x).cell o).trans HO.out
  have s1 := Nat.le_trans HW.out K1.out.below.size
  have sz1 := K1.out.below.size
  clear hcp HPA HKA hmk hZ
  go_upto_region 4 with fail
  obtain ⟨U, hU⟩ : ∃ U, U = w1.alloc (.cells Z 53) := ⟨_, rfl⟩
  have PU := qh (show Box U P t cs by (rw [hU]; exact P1.out.alloc _))
  have SU := qh (show Box U w1.heap.size 53 Z by (rw [hU]; exact Box.made w1 _ _))
  have IU := qh (show Rd b Bb Bp r1 U by (rw [hU]; exact I1.out.call (one_below w1 _) s1))
  have KU := qh (show Rk b Bb P w U by (rw [hU]; exact K1.out.trans (Rk.alloc (w := w1) (Bb := Bb) (P := P) s1 _)))
  have hSB : Hid (w1.heap.size ≠ P) := qh (by have := P1.out.lt; omega)
  have hSw : Hid (b ≤ w1.heap.size) := qh s1
  have hSz : Hid (w.heap.size ≤ w1.heap.size) := qh sz1
  rw [← hU]
  generalize w1.heap.size = S at *
  clear hU I1 K1 P1 p58 hcpw hmkn l1 s1 sz1
  have hbU : b ≤ U.heap.size := Nat.le_trans HW.out KU.out.below.size
  go_upto_region 5 with fail
  go_loopw [10, 27] (fun _ i wr => ∃ (k : Nat) (l : List α) (Cs : List (List Value)) (bs' : List Int), k ≤ n ∧ i = .int .i64 k ∧ l.length = k ∧ Im.IsBytes bs' ∧ Im.decFrom dec [] n r1 = Im.decFrom dec l (n - k) bs' ∧ Rd b Bb Bp bs' wr ∧ Rk b Bb S U wr ∧ AllGood 26 (Good wr) l Cs ∧ ∃ Y, Box wr S 53 Y ∧ ∀ j, Y[j]? = if j < k * 26 then Cs.flatten[j]? else if j < n * 26 then (Value.agg En.zeroC).cells.toList[j % 26]? else none) (fun _ i _ => n - (intOf i).toNat)
  case atStart => exact ⟨0, [], [], r1, by omega, rfl, rfl, Y1.out.2.2.2, rfl, IU.out, Rk.refl _ _ _ _, trivial, Z, SU.out, HZ.out⟩
  case round =>
    obtain ⟨k, l, Cs, bs', hk, rfl, hlen, hy, hdec, hI, hK, hA, Y, hB, hYc⟩ := hrel
    by_cases hlt : k < n
    · have hk8 : (k : Int) < n := by omega
      rw [show n - k = (n - (k + 1)) + 1 by omega] at hdec
      have hwy : b ≤ wr.heap.size := Nat.le_trans hbU hK.below.size
      have hkn : (k + 1) * 26 ≤ n * 26 := Nat.mul_le_mul_right _ hlt
      have cc := qh (HC.out k S wr Y bs' hy (KU.out.below.trans hK.below) hSw.out hwy hI hB (fun j hj => by rw [hYc, if_neg (by omega), if_pos (by omega)]; congr 1; omega))
      have HNX := qh hdec
      have HLEN := qh hlen
      have K2 := qh hK
      have HA := qh hA
      have HBX := qh hB
      have HYC := qh hYc
      clear hI hK hB hdec hlen hy hwy hA hYc hkn
      go_wp2_with (go_at_call 81; ((with_reducible refine (cc.out).mono ?_); rintro e w3 (⟨v, r3, C, hr, rfl, hy, hI, hK, hCl, hG, Y', hB, hP⟩ | ⟨hn, ⟨ss, rfl⟩, hK⟩); (all_goals first | (have R3 := qh hr; have Y3 := qh hy; have I3 := qh hI; have K3 := qh (K2.out.trans hK); have A3 := qh ((HA.out.mono (fun v C => G1.out wr w3 S Y v C HBX.out hK.kb)).snoc hCl hG); have B3 := qh hB; have Z3 := qh (Im.Patch.snoc hP HYC.out hCl hlt (by rw [HA.out.len.2, HLEN.out])); clear hr hy hI hK hCl hG hB hP) | (have N3 := qh hn; have F3 := qh (K2.out.trans hK); clear hn hK))))
      · go_roundw
        case rel => exact ⟨k + 1, l ++ [v], Cs ++ [C], r3, by omega, by go_num, by rw [List.length_append, HLEN.out]; rfl, Y3.out, by rw [HNX.out, Im.decFrom_some R3.out], I3.out, K3.out, A3.out, Y', B3.out, Z3.out⟩
        case measure => simp [intOf]; omega
      · refine ⟨rfl, .inr ⟨?_, ⟨_, rfl⟩, KU.out.local F3.out hSz.out, F3.out.kb _ _ _ PU.out hSB.out.symm h1 h2⟩⟩
        rw [HDE.out, HNX.out, Im.decFrom_none N3.out]
    · have hk8 : ¬ (k : Int) < n := by omega
      obtain rfl : k = n := by omega
      rw [Nat.sub_self, Im.decFrom_zero] at hdec
      have HI := qh hI
      have HK := qh hK
      have HDX := qh hdec
      have HL := qh hlen
      have HYY := qh hy
      have PW := qh (hK.kb _ _ _ PU.out hSB.out.symm h1 h2)
      have pc : wr.cell? ⟨P, o, none⟩ = some (.slice none 0 0) := (PW.out.cell o).trans HO.out
      have pf : wr.frozen? ⟨P, o, none⟩ = false := PW.out.free o
      have eY : Y = Cs.flatten.toArray := by
        apply Array.ext_getElem?
        intro j
        have hl2 := hA.len.2
        rw [hYc j]
        by_cases hj : j < k * 26
        · rw [if_pos hj, List.getElem?_toArray]
        · rw [if_neg hj, if_neg hj, List.getElem?_toArray, List.getElem?_eq_none (by rw [hl2, hlen]; omega)]
      have HA := qh hA
      rw [eY] at hB
      have HBX := qh hB
      clear hI hK hB hdec hlen hy hA hYc eY
      go_wp2
      go_end0
      refine .inl ⟨l, bs', S, Cs, by rw [HDE.out, HDX.out], rfl, HYY.out, HI.out.off (p := ⟨P, o, none⟩) PW.out h3 h1 HB.out _, ?_, hSz.out, ?_, HBX.out.far hSB.out _, HA.out.mono fun v C => G2.out wr _ cs v C PW.out ((Kb.refl wr).put o _)⟩
      · exact (KU.out.local HK.out hSz.out).put HB.out o _
      · rw [HL.out]; exact PW.out.put o _
end Go.Proofs.Ytgmlbimgcifenaa
namespace Go.Proofs.Ytgmlbimgcifenaa
open Go.RowKit Go.Shelf
theorem zin_infoZ : (Try.prog.info? 50).map (fun i => (i.zero, i.size, i.bytes)) = some (some (Value.agg #[.int .i8 0, .int .i8 0, .int .u8 0]), 3, 3) := by kernel_rfl
theorem zin_sz : (Try.prog.info? 50).map (·.size) = some 3 := by kernel_rfl
theorem listzin_w (C : List Value) (ys : List (List Int)) (n : Nat) (A : Option Addr) (c size : Nat) (z : Int) (hz : z = size) (P o : Nat) (t : TypeId) (cs : Array Value) (bs : List Int) (b Bb Bp : Nat) (w : World) (hn : ys.length = n) (hn16 : n ≤ 4096) (hs : size ≤ 8) (hbB : b ≤ Bb) (hbP : b ≤ P) (hbw : b ≤ w.heap.size) (h : Wr b Bb Bp bs w) (hl : bs.length + size + ys.flatten.length ≤ 65536) (hP : Box w P t cs)
    (ho : cs[o]? = some (.slice A n c)) (hL : Lies w b 3 A n C) (hone : ∀ u ∈ C, u.oneCell' = true) (h1 : t ≠ 27) (h2 : t ≠ 5) (h3 : t ≠ 68) (hc : EachW 78 50 3 C ys b Bb Bp w) :
    Calls Try.prog 77 #[.func (.func 54) #[] #[.pointer (some ⟨Bp, 0, none⟩)], .int .i64 z, .pointer (some ⟨P, o, none⟩), .func (.func 78) #[] #[]] w fun e w' => e = .returned (.tuple #[]) ∧ Wr b Bb Bp (bs ++ (Im.bytesOf size n ++ ys.flatten)) w' ∧ Below b w w' ∧ Kb P w w' ∧ VarK Bb P w w' ∧ ∃ S, Box w' P t (cs.setIfInBounds o (.slice (some ⟨S, 0, none⟩) n n)) := by
  subst hz
  have k0 := hP.cell o
  rw [ho] at k0
  have ltP := hP.lt
  have hwn : IntKind.u64.wrap (n : Int) = n := by rw [IntKind.wrap_u64]; omega
  have HL := qh (Box.made w 3 #[.int .i64 n])
  have HPA := qh (hP.alloc (.cells #[.int .i64 n] 3))
  have HA := qh (h.alloc (.cells #[.int .i64 n] 3))
  have WA := qh ((Wrote.refl hbB w).alloc (.cells #[.int .i64 n] 3))
  have KA := qh ((Kb.refl (B := P) w).call (one_below w (.cells #[.int .i64 n] 3)))
  have VA := qh ((VarK.refl (Bb := Bb) (P := P) w).call (one_below w (.cells #[.int .i64 n] 3)))
  have c1 := qh (layint_w size size rfl n w.heap.size 0 3 #[.int .i64 n] bs b Bb Bp _ hs (by omega) hbB HA.out (by omega) HL.out rfl (by decide) (by decide) (by decide))
  rw [hwn] at c1
  have hvar := qh HA.out.isvar
  have HO := qh ho
  have HLs := qh hL
  obtain ⟨i0, hi0, hz0, hz1, hz2⟩ := info_parts zin_infoZ
  obtain ⟨Z, hZ⟩ : ∃ Z, Z = madeCells (Value.agg #[.int .i8 0, .int .i8 0, .int .u8 0]).cells (n * 3) := ⟨_, rfl⟩
  have hZs : Z.size = n * 3 := by rw [hZ, size_madeCells]
  have hCs : C.length = n * 3 := hL.len
  have hmk : ∀ W : World, (Instr.makeSlice 25 (.int .i64 (n : Int)) (.int .i64 (n : Int))).run Try.prog W = .ok (.slice (some ⟨W.heap.size, 0, none⟩) n n) (W.alloc (.cells Z 50)) := fun W => by
    have := run_make (P := Try.prog) W 25 50 i0 _ Try.underlying25 hi0 hz0 .i64 .i64 n n (by omega) (Int.le_refl _) (by rw [hz2]; omega) (by omega)
    rw [this, hZ, hz1, Int.toNat_natCast]
  have hcp : ∀ W : World, Lies W W.heap.size 3 A n C → (Builtin.copy_ #[25, 25] 3 #[.slice (some ⟨W.heap.size, 0, none⟩) n n, .slice A n c]).run Try.prog (W.alloc (.cells Z 50)) = .ok (.int .i64 n) (W.alloc (.cells C.toArray 50)) := fun W hW => by
    cases A with
    | none =>
      have hn0 : n = 0 := by
        by_cases h0 : n = 0
        · exact h0
        · obtain ⟨ad, e, _⟩ := hW.start h0
          cases e
      have hl0 : C = [] := List.eq_nil_of_length_eq_zero (by omega)
      have hz : Z = #[] := Array.eq_empty_of_size_eq_zero (by omega)
      have := run_copy_nought (P := Try.prog) (W.alloc (.cells Z 50)) 25 25 3 50 ⟨W.heap.size, 0, none⟩ n n c Try.underlying25 (by rw [Option.isSome_map]; rw [hi0]; rfl)
      rw [hn0] at this ⊢
      rw [hl0]
      rw [hz] at this ⊢
      simpa [goInt] using this
    | some ad =>
      have hc : ∀ j v, C[j]? = some v → (W.alloc (.cells Z 50)).cell? (ad.add j) = some v := fun j v hv => by
        have hn0 : n ≠ 0 := fun e => by
          have := (List.getElem?_eq_some_iff.1 hv).1
          omega
        exact (hW.below (one_below W (.cells Z 50))).cell ad rfl hn0 j v hv
      have := run_copy_rows (P := Try.prog) (W.alloc (.cells Z 50)) 25 25 3 50 3 W.heap.size n n ad n c Z 50 C Try.underlying25 zin_sz (Box.made W _ _).is (by rw [hW.len]; simp) hc (by rw [hW.len, hZs]) hone
      rw [World.setRow_alloc_new] at this
      simpa [goInt] using this
  have NL := qh hn
  have HC := qh hc
  have HCS := qh hCs
  clear h hP ho hL hZ hn hc hCs
  go_enter Try.func77, Try.ntmps77
  go_upto_region 2 with (go_at_call 51; ((with_reducible refine (c1.out).mono ?_); rintro e w1 ⟨rfl, hI1, hK1⟩; have L1 := HL.out.wrote' hK1 hvar.out (by decide) (by decide); have l1 := L1.cell 0; have P1 := qh (HPA.out.wrote' hK1 hvar.out h1 h2); have I1 := qh hI1; have K1 := qh (WA.out.trans hK1); have B1 := qh (KA.out.wrote hK1 hvar.out); have V1 := qh (VA.out.wrote hK1); clear hI1 hK1 L1 k0))
  have lw1 := (HLs.out.below (K1.out.to hbw))
  have hcpw := hcp w1 (lw1.wider (Nat.le_trans hbw K1.out.size))
  have p58 : ∀ x, (w1.alloc x).cell? ⟨P, o, none⟩ = some (.slice A n c) := fun x => ((P1.out.alloc x).cell o).trans HO.out
  have sz1 : w.heap.size ≤ w1.heap.size := K1.out.size
  clear hcp lw1 HLs HL HPA HA WA KA VA c1
  go_upto_region 4 with fail
  obtain ⟨U, hU⟩ : ∃ U, U = w1.alloc (.cells C.toArray 50) := ⟨_, rfl⟩
  have PU : Box U P t cs := by rw [hU]; exact P1.out.alloc _
  have SU : Box U w1.heap.size 50 C.toArray := by rw [hU]; exact Box.made w1 _ _
  have IU : Wr b Bb Bp (bs ++ Im.bytesOf size n) U := by rw [hU]; exact I1.out.alloc _
  have BU : Below b w U := by rw [hU]; exact (K1.out.to hbw).alloc (Nat.le_trans hbw sz1) _
  have KU : Kb P w U := by rw [hU]; exact B1.out.call (one_below _ _)
  have VU : VarK Bb P w U := by rw [hU]; exact V1.out.call (one_below _ _)
  have hSP : w1.heap.size ≠ P := by have := P1.out.lt; omega
  have hbS : b ≤ w1.heap.size := Nat.le_trans hbw sz1
  have hSw : w.heap.size ≤ w1.heap.size := sz1
  rw [← hU]
  generalize w1.heap.size = S at *
  have IU := qh IU
  have PU := qh PU
  have SU := qh SU
  have BU := qh BU
  have KU := qh KU
  have VU := qh VU
  clear hU I1 K1 P1 B1 V1 p58 hcpw hmk l1 hvar sz1
  go_upto_region 5 with fail
  go_loopw [10, 27] (fun _ i wr => ∃ k : Nat, k ≤ n ∧ i = .int .i64 k ∧ Wr b Bb Bp (bs ++ Im.bytesOf size n ++ (ys.take k).flatten) wr ∧ Below b U wr ∧ Kb S U wr ∧ VarK Bb S U wr ∧ ∃ Y, Box wr S 50 Y ∧ Y.size = C.length ∧ ∀ j, k * 3 ≤ j → Y[j]? = C[j]?) (fun _ i _ => n - (intOf i).toNat)
  case atStart => exact ⟨0, by omega, rfl, by simpa using IU.out, Below.refl _ _, Kb.refl _, VarK.refl _, _, SU.out, by simp, fun j _ => by simp⟩
  case round =>
    obtain ⟨k, hk, rfl, hI, hB, hK, hVK, Y, hY, hYs, hYc⟩ := hrel
    by_cases hlt : k < n
    · have hk8 : (k : Int) < n := by omega
      have hkl : k < ys.length := by have := NL.out; omega
      have ht := Im.flat_take hkl
      have hle := Im.flat_le ys (k + 1)
      rw [ht, List.length_append] at hle
      have HT := qh ht
      have cc := qh (HC.out k S wr Y (bs ++ Im.bytesOf size n ++ (ys.take k).flatten) hkl (BU.out.trans hB) hbS hI (by rw [List.length_append, List.length_append, Im.bytesOf_len]; omega) hY (fun j hj => hYc _ (by omega)))
      have HB := qh hB
      have HK := qh hK
      have HVK := qh hVK
      have HYs := qh hYs
      have HYc := qh hYc
      clear ht hle hI hB hK hVK hYs hYc hY
      go_wp2_with (go_at_call 78; ((with_reducible refine (cc.out).mono ?_); rintro e w3 ⟨rfl, hI, hB, hK, hVK, Y', hY, hYs, hYc⟩; have V3 := qh (HVK.out.trans hVK); have I3 := qh hI; have B3 := qh (HB.out.trans hB); have K3 := qh (HK.out.trans hK); have Y3 := qh hY; have Z3 := qh (hYs.trans HYs.out); have C3 := qh hYc; clear hI hB hK hVK hY hYs hYc))
      go_roundw
      case rel => exact ⟨k + 1, by omega, by go_num, by rw [HT.out, ← List.append_assoc]; exact I3.out, B3.out, K3.out, V3.out, Y', Y3.out, Z3.out, fun j hj => by rw [C3.out j (by omega)]; exact HYc.out j (by omega)⟩
      case measure => simp [intOf]; omega
    · have hk8 : ¬ (k : Int) < n := by omega
      obtain rfl : k = n := by omega
      have ht : ys.take k = ys := List.take_of_length_le (by have := NL.out; omega)
      rw [ht] at hI
      have HI := qh hI
      have HK := qh hK
      have HB := qh hB
      have HVK := qh hVK
      have PW := qh (hK P t cs PU.out hSP.symm h1 h2)
      have pc : wr.cell? ⟨P, o, none⟩ = some (.slice A k c) := (PW.out.cell o).trans HO.out
      have pf : wr.frozen? ⟨P, o, none⟩ = false := PW.out.free o
      clear hI hK hB hVK hY hYs hYc
      go_wp2
      go_end0
      exact ⟨rfl, by rw [← List.append_assoc]; exact HI.out.off (p := ⟨P, o, none⟩) PW.out h3 h1 h2 _, (BU.out.trans HB.out).setCell hbP _, (KU.out.fresh HK.out hSw).put o _, (VU.out.fresh HVK.out hSw).put o _, S, PW.out.put o _⟩
theorem listzin_r {α : Type} (dec : List Int → Option (α × List Int)) (Good : World → α → List Value → Prop) (size : Nat) (z : Int) (hz : z = size) (P o : Nat) (t : TypeId) (cs : Array Value) (bs : List Int) (b Bb Bp : Nat) (w : World) (hBy : Im.IsBytes bs) (hs : 1 ≤ size ∧ size ≤ 2) (hbB : b ≤ Bb) (hbP : b ≤ P) (hbw : b ≤ w.heap.size) (h : Rd b Bb Bp bs w) (hP : Box w P t cs)
    (ho : cs[o]? = some (.slice none 0 0)) (h1 : t ≠ 27) (h2 : t ≠ 5) (h3 : t ≠ 68)
    (hG1 : ∀ X X' S Y v C, Box X S 50 Y → Kb S X X' → Good X v C → Good X' v C) (hG2 : ∀ X X' Y v C, Box X P t Y → Kb P X X' → Good X v C → Good X' v C)
    (hc : EachR 78 50 3 (Value.agg #[.int .i8 0, .int .i8 0, .int .u8 0]).cells.toList dec Good b Bb Bp w) :
    Calls Try.prog 77 #[.func (.func 60) #[] #[.pointer (some ⟨Bp, 0, none⟩)], .int .i64 z, .pointer (some ⟨P, o, none⟩), .func (.func 78) #[] #[]] w (GotL 50 3 (Im.decL size dec bs) Good b Bb Bp P o t cs w) := by
  subst hz
  have k0 := hP.cell o
  rw [ho] at k0
  have ltP := hP.lt
  have HPA := qh (hP.alloc (.cells #[.int .i64 0] 3))
  have HKA := qh (Rk.alloc (w := w) (Bb := Bb) (P := P) hbw (.cells #[.int .i64 0] 3))
  have c1 := qh (part_int size size rfl 0 w.heap.size 0 3 #[.int .i64 0] bs b Bb Bp _ (by omega) hBy hbB hbw (by simp <;> omega) (h.call (one_below w (.cells #[.int .i64 0] 3)) hbw) (Box.made w 3 #[.int .i64 0]) rfl (by decide) (by decide) (by decide))
  obtain ⟨i0, hi0, hz0, hz1, hz2⟩ := info_parts zin_infoZ
  have hmk : ∀ (n : Nat), n < 65536 → ∀ W : World, (Instr.makeSlice 25 (.int .i64 (n : Int)) (.int .i64 (n : Int))).run Try.prog W = .ok (.slice (some ⟨W.heap.size, 0, none⟩) n n) (W.alloc (.cells (madeCells (Value.agg #[.int .i8 0, .int .i8 0, .int .u8 0]).cells (n * 3)) 50)) := fun n hn W => by
    have := run_make (P := Try.prog) W 25 50 i0 _ Try.underlying25 hi0 hz0 .i64 .i64 n n (by omega) (Int.le_refl _) (by rw [hz2]; omega) (by omega)
    rw [this, hz1, Int.toNat_natCast]
  have hcp : ∀ (n : Nat) (Z : Array Value) (W : World), (Builtin.copy_ #[25, 25] 3 #[.slice (some ⟨W.heap.size, 0, none⟩) n n, .slice none 0 0]).run Try.prog (W.alloc (.cells Z 50)) = .ok (.int .i64 0) (W.alloc (.cells Z 50)) := fun n Z W => by
    have := run_copy_nought (P := Try.prog) (W.alloc (.cells Z 50)) 25 25 3 50 ⟨W.heap.size, 0, none⟩ n n 0 Try.underlying25 (by rw [Option.isSome_map]; rw [hi0]; rfl)
    simpa [goInt] using this
  have HO := qh ho
  have HB := qh hbP
  have HW := qh hbw
  have HY := qh hBy
  have HC := qh hc
  have G1 := qh hG1
  have G2 := qh hG2
  have HS := qh hs
  clear h hP ho hBy hc hG1 hG2 hs
  go_enter Try.func77, Try.ntmps77
  go_upto_region 2 with (go_at_call 51; ((with_reducible refine (c1.out).mono ?_); rintro r w1 (⟨m, r1, hr, rfl, hI, hK, hB1⟩ | ⟨hn, ⟨ss, rfl⟩, hK, cs', hB1, hs⟩); (all_goals first | (have R1 := qh hr; have Y1 := qh (Im.rdn_inv HY.out hr); have l1 := hB1.cell 0; have P1 := qh (hK.kb _ _ _ HPA.out (by omega) h1 h2); have I1 := qh hI; have K1 := qh (HKA.out.local hK (Nat.le_refl _)); clear hr hI hK hB1 c1 k0) | (have N1 := qh hn; have F1 := qh (HKA.out.local hK (Nat.le_refl _)); have Q1 := qh (hK.kb _ _ _ HPA.out (by omega) h1 h2); clear hn hK hB1 hs c1 k0))))
  rotate_left
  · refine ⟨rfl, .inr ⟨?_, ⟨_, rfl⟩, F1.out, Q1.out⟩⟩
    unfold Im.decL
    rw [N1.out, Option.bind_none]
  obtain ⟨n, hmn⟩ : ∃ n : Nat, m = n := ⟨m.toNat, by have := Y1.out.2.1; omega⟩
  subst hmn
  have hn256 : n < 65536 := by
    have h1 := Y1.out.2.2.1
    have h2 : (2 : Int) ^ (8 * size) ≤ 2 ^ 16 := by
      have := Nat.pow_le_pow_right (show 0 < 2 by decide) (show 8 * size ≤ 16 by have := HS.out; omega)
      exact_mod_cast this
    omega
  have HDE := qh (show Im.decL size dec bs = Im.decFrom dec [] n r1 by unfold Im.decL; rw [R1.out, Option.bind_some, Int.toNat_natCast, Im.decFrom_nil])
  simp only [List.getElem?_toArray, Array.setIfInBounds, List.size_toArray, List.length_cons, List.length_nil, Nat.zero_add, Nat.lt_add_one, dite_true, List.set_toArray, List.set_cons_zero, List.getElem?_cons_zero] at l1
  have hmkn := hmk n hn256
  obtain ⟨Z, hZ⟩ : ∃ Z, Z = madeCells (Value.agg #[.int .i8 0, .int .i8 0, .int .u8 0]).cells (n * 3) := ⟨_, rfl⟩
  rw [← hZ] at hmkn
  have HZ := qh (show ∀ j, Z[j]? = if j < 0 * 3 then ([] : List (List Value)).flatten[j]? else if j < n * 3 then (Value.agg #[.int .i8 0, .int .i8 0, .int .u8 0]).cells.toList[j % 3]? else none from by rw [hZ]; exact made_rows (Value.agg #[.int .i8 0, .int .i8 0, .int .u8 0]).cells n (by decide))
  have hcpw := hcp n Z w1
  have p58 : ∀ x, (w1.alloc x).cell? ⟨P, o, none⟩ = some (.slice none 0 0) := fun x => ((P1.out.alloc x).cell o).trans HO.out
  have s1 := Nat.le_trans HW.out K1.out.below.size
  have sz1 := K1.out.below.size
  clear hcp HPA HKA hmk hZ
  go_upto_region 4 with fail
  obtain ⟨U, hU⟩ : ∃ U, U = w1.alloc (.cells Z 50) := ⟨_, rfl⟩
  have PU := qh (show Box U P t cs by (rw [hU]; exact P1.out.alloc _))
  have SU := qh (show Box U w1.heap.size 50 Z by (rw [hU]; exact Box.made w1 _ _))
  have IU := qh (show Rd b Bb Bp r1 U by (rw [hU]; exact I1.out.call (one_below w1 _) s1))
  have KU := qh (show Rk b Bb P w U by (rw [hU]; exact K1.out.trans (Rk.alloc (w := w1) (Bb := Bb) (P := P) s1 _)))
  have hSB : Hid (w1.heap.size ≠ P) := qh (by have := P1.out.lt; omega)
  have hSw : Hid (b ≤ w1.heap.size) := qh s1
  have hSz : Hid (w.heap.size ≤ w1.heap.size) := qh sz1
  rw [← hU]
  generalize w1.heap.size = S at *
  clear hU I1 K1 P1 p58 hcpw hmkn l1 s1 sz1
  have hbU : b ≤ U.heap.size := Nat.le_trans HW.out KU.out.below.size
  go_upto_region 5 with fail
  go_loopw [10, 27] (fun _ i wr => ∃ (k : Nat) (l : List α) (Cs : List (List Value)) (bs' : List Int), k ≤ n ∧ i = .int .i64 k ∧ l.length = k ∧ Im.IsBytes bs' ∧ Im.decFrom dec [] n r1 = Im.decFrom dec l (n - k) bs' ∧ Rd b Bb Bp bs' wr ∧ Rk b Bb S U wr ∧ AllGood 3 (Good wr) l Cs ∧ ∃ Y, Box wr S 50 Y ∧ ∀ j, Y[j]? = if j < k * 3 then Cs.flatten[j]? else if j < n * 3 then (Value.agg #[.int .i8 0, .int .i8 0, .int .u8 0]).cells.toList[j % 3]? else none) (fun _ i _ => n - (intOf i).toNat)
  case atStart => exact ⟨0, [], [], r1, by omega, rfl, rfl, Y1.out.2.2.2, rfl, IU.out, Rk.refl _ _ _ _, trivial, Z, SU.out, HZ.out⟩
  case round =>
    obtain ⟨k, l, Cs, bs', hk, rfl, hlen, hy, hdec, hI, hK, hA, Y, hB, hYc⟩ := hrel
    by_cases hlt : k < n
    · have hk8 : (k : Int) < n := by omega
      rw [show n - k = (n - (k + 1)) + 1 by omega] at hdec
      have hwy : b ≤ wr.heap.size := Nat.le_trans hbU hK.below.size
      have hkn : (k + 1) * 3 ≤ n * 3 := Nat.mul_le_mul_right _ hlt
      have cc := qh (HC.out k S wr Y bs' hy (KU.out.below.trans hK.below) hSw.out hwy hI hB (fun j hj => by rw [hYc, if_neg (by omega), if_pos (by omega)]; congr 1; omega))
      have HNX := qh hdec
      have HLEN := qh hlen
      have K2 := qh hK
      have HA := qh hA
      have HBX := qh hB
      have HYC := qh hYc
      clear hI hK hB hdec hlen hy hwy hA hYc hkn
      go_wp2_with (go_at_call 78; ((with_reducible refine (cc.out).mono ?_); rintro e w3 (⟨v, r3, C, hr, rfl, hy, hI, hK, hCl, hG, Y', hB, hP⟩ | ⟨hn, ⟨ss, rfl⟩, hK⟩); (all_goals first | (have R3 := qh hr; have Y3 := qh hy; have I3 := qh hI; have K3 := qh (K2.out.trans hK); have A3 := qh ((HA.out.mono (fun v C => G1.out wr w3 S Y v C HBX.out hK.kb)).snoc hCl hG); have B3 := qh hB; have Z3 := qh (Im.Patch.snoc hP HYC.out hCl hlt (by rw [HA.out.len.2, HLEN.out])); clear hr hy hI hK hCl hG hB hP) | (have N3 := qh hn; have F3 := qh (K2.out.trans hK); clear hn hK))))
      · go_roundw
        case rel => exact ⟨k + 1, l ++ [v], Cs ++ [C], r3, by omega, by go_num, by rw [List.length_append, HLEN.out]; rfl, Y3.out, by rw [HNX.out, Im.decFrom_some R3.out], I3.out, K3.out, A3.out, Y', B3.out, Z3.out⟩
        case measure => simp [intOf]; omega
      · refine ⟨rfl, .inr ⟨?_, ⟨_, rfl⟩, KU.out.local F3.out hSz.out, F3.out.kb _ _ _ PU.out hSB.out.symm h1 h2⟩⟩
        rw [HDE.out, HNX.out, Im.decFrom_none N3.out]
    · have hk8 : ¬ (k : Int) < n := by omega
      obtain rfl : k = n := by omega
      rw [Nat.sub_self, Im.decFrom_zero] at hdec
      have HI := qh hI
      have HK := qh hK
      have HDX := qh hdec
      have HL := qh hlen
      have HYY := qh hy
      have PW := qh (hK.kb _ _ _ PU.out hSB.out.symm h1 h2)
      have pc : wr.cell? ⟨P, o, none⟩ = some (.slice none 0 0) := (PW.out.cell o).trans HO.out
      have pf : wr.frozen? ⟨P, o, none⟩ = false := PW.out.free o
      have eY : Y = Cs.flatten.toArray := by
        apply Array.ext_getElem?
        intro j
        have hl2 := hA.len.2
        rw [hYc j]
        by_cases hj : j < k * 3
        · rw [if_pos hj, List.getElem?_toArray]
        · rw [if_neg hj, if_neg hj, List.getElem?_toArray, List.getElem?_eq_none (by rw [hl2, hlen]; omega)]
      have HA := qh hA
      rw [eY] at hB
      have HBX := qh hB
      clear hI hK hB hdec hlen hy hA hYc eY
      go_wp2
      go_end0
      refine .inl ⟨l, bs', S, Cs, by rw [HDE.out, HDX.out], rfl, HYY.out, HI.out.off (p := ⟨P, o, none⟩) PW.out h3 h1 HB.out _, ?_, hSz.out, ?_, HBX.out.far hSB.out _, HA.out.mono fun v C => G2.out wr _ cs v C PW.out ((Kb.refl wr).put o _)⟩
      · exact (KU.out.local HK.out hSz.out).put HB.out o _
      · rw [HL.out]; exact PW.out.put o _
end Go.Proofs.Ytgmlbimgcifenaa
namespace Go.Proofs.Ytgmlbimgcifenaa
open Go.ChangeShapes Go.WideShapes Go.ChangeAt Go.RowKit Go.Joins Go.ChangeMaps Go.Deep
theorem cut_at9 {α : Type} (l : List α) (a b : Nat) : l.drop a = (l.drop a).take b ++ l.drop (a + b) := by
  have := (List.take_append_drop b (l.drop a)).symm
  rwa [List.drop_drop] at this
theorem cut_end9 {α : Type} (l : List α) (a b : Nat) (h : l.length = a + b) : l.drop a = (l.drop a).take b := by
  rw [List.take_of_length_le (by simp; omega)]
section
variable {H : Type} {enc : TypeId × Value → H} {w : World} {base : Nat} {spare : Nat → Bool} {held : Bool}
theorem trod_ev {base : Nat} {spare : Nat → Bool} {held : Bool} {fuel : Nat} {l : List Value} {y : DataW H × List MemPlace} (hl : l.length = 4) (h : DataW.trod enc Try.prog w base spare held fuel 59 l = some y) : ∃ s : En.Ev, l = s.cells ∧ En.tyEv s := by
  obtain ⟨xs, n, _, _, _, hlen, hf⟩ := DataW.trod_struct Try.underlying59 h
  have ci : Try.prog.cellsOf 3 = 1 := by kernel_rfl
  match l, hl, xs, hlen with
  | [a0, a1, a2, a3], _, [y0, y1, y2, y3], _ =>
    obtain ⟨x0, e0, _, w0⟩ := DataW.trod_int Try.underlying3 (hf 0 _ rfl)
    obtain ⟨x1, e1, _, w1⟩ := DataW.trod_int Try.underlying3 (hf 1 _ rfl)
    obtain ⟨x2, e2, _, w2⟩ := DataW.trod_int Try.underlying3 (hf 2 _ rfl)
    obtain ⟨x3, e3, _, w3⟩ := DataW.trod_int Try.underlying3 (hf 3 _ rfl)
    simp [ci] at e0 e1 e2 e3
    subst e0 e1 e2 e3
    exact ⟨⟨x0, x1, x2, x3⟩, rfl, Bd.i64 w0, Bd.i64 w1, Bd.i64 w2, Bd.i64 w3⟩
theorem trod_ins {base : Nat} {spare : Nat → Bool} {held : Bool} {fuel : Nat} {l : List Value} {y : DataW H × List MemPlace} (hl : l.length = 24) (h : DataW.trod enc Try.prog w base spare held fuel 51 l = some y) :
    ∃ f : Nat → Gm.In, l = Gm.insCells f ∧ ∀ k, k < 8 → Gm.tyIn (f k) := by
  obtain ⟨xs, m, _, hx, _, hn, he⟩ := DataW.trod_array Try.underlying51 h
  have c3 : Try.prog.cellsOf 50 = 3 := by kernel_rfl
  simp only [c3] at he
  have key : ∀ i, i < 8 → ∃ q : Gm.In, (l.drop (i * 3)).take 3 = q.cells ∧ Gm.tyIn q := by
    intro i hi
    have hlen : ((l.drop (i * 3)).take 3).length = 3 := by simp; omega
    obtain ⟨y, hy⟩ : ∃ y, xs[i]? = some y := ⟨xs[i]'(by omega), List.getElem?_eq_getElem (by omega)⟩
    have h : DataW.trod enc Try.prog w base spare held m 50 ((l.drop (i * 3)).take 3) = xs[i]? := he i hi
    rw [hy] at h
    match hq : (l.drop (i * 3)).take 3, hlen with
    | [a, b, c], _ =>
      rw [hq] at h
      obtain ⟨q, h1, h2, _⟩ := trod_in h
      exact ⟨q, h1, h2⟩
  have hch : ∃ ps : Nat → Gm.In, ∀ i, i < 8 → ((l.drop (i * 3)).take 3 = (ps i).cells ∧ Gm.tyIn (ps i)) :=
    ⟨fun i => if h : i < 8 then (key i h).choose else ⟨0, 0, 0⟩, fun i hi => by dsimp only; rw [dif_pos hi]; exact (key i hi).choose_spec⟩
  obtain ⟨ps, hps⟩ := hch
  refine ⟨ps, ?_, fun i hi => (hps i hi).2⟩
  rw [cut24 l hl]
  unfold Gm.insCells
  rw [(hps 0 (by decide)).1, (hps 1 (by decide)).1, (hps 2 (by decide)).1, (hps 3 (by decide)).1, (hps 4 (by decide)).1, (hps 5 (by decide)).1, (hps 6 (by decide)).1, (hps 7 (by decide)).1]
theorem trod_entry {base : Nat} {spare : Nat → Bool} {held : Bool} {fuel : Nat} {l : List Value} {y : DataW H × List MemPlace} (hl : l.length = 26) (h : DataW.trod enc Try.prog w base spare held fuel 53 l = some y) :
    ∃ q : En.S, l = q.cells ∧ En.Ty q.e ∧ q.e.evs.length ≤ maxLen ∧ Lies w w.heap.size 4 q.adr q.e.evs.length (En.evCells q.e.evs) := by
  obtain ⟨y0, y1, y2, n, _, _, h0, h1, h2⟩ := trod_struct3 Try.underlying53 h
  have ci : Try.prog.cellsOf 3 = 1 := by kernel_rfl
  have c24 : Try.prog.cellsOf 51 = 24 := by kernel_rfl
  have csl : Try.prog.cellsOf 47 = 1 := by kernel_rfl
  have c4 : Try.prog.cellsOf 59 = 4 := by kernel_rfl
  obtain ⟨x0, e0, _, w0⟩ := DataW.trod_int Try.underlying3 h0
  simp only [c24] at h2
  obtain ⟨f, e2, hty⟩ := trod_ins (by simp; omega) h2
  simp only [csl] at h1
  have hlen1 : ((l.drop 1).take 1).length = 1 := by simp; omega
  obtain ⟨u, hu⟩ : ∃ u, (l.drop 1).take 1 = [u] := by
    match hq : (l.drop 1).take 1, hlen1 with
    | [u], _ => exact ⟨u, rfl⟩
  have h1' : DataW.trod enc Try.prog w base spare held n 47 [u] = some y1 := by rw [← hu]; exact h1
  have hsl : ∃ a m k, u = .slice a m k := by
    rcases DataW.trod_slice Try.underlying47 h1' with ⟨hv, _⟩ | ⟨a, len, cap, elems, rest, k, _, hv, _⟩
    · injection hv with hv; exact ⟨_, _, _, hv⟩
    · injection hv with hv; exact ⟨_, _, _, hv⟩
  obtain ⟨a, m, k, rfl⟩ := hsl
  obtain ⟨A, c, evs, ev, ht, hm, hL⟩ := open_slice (enc := enc) (w := w) (base := base) (spare := spare) (held := held) En.Ev.cells 4 En.tyEv ⟨0, 0, 0, 0⟩ Try.underlying47 c4 (by decide) (fun _ => rfl) (fun hl ht => trod_ev hl ht) (v := .slice a m k) (d := y1.1) (p := y1.2) (fun cs e => by cases e) ⟨n, h1'⟩
  refine ⟨⟨⟨x0, evs, f⟩, A, c⟩, ?_, ⟨Bd.i64 w0, ht, hty⟩, hm, hL⟩
  have e0' : (l.drop 0).take 1 = [Value.int .i64 x0] := by rw [← e0, ci]
  have q2 : l.drop 2 = Gm.insCells f := by rw [← e2]; exact cut_end9 l 2 24 (by omega)
  have q1 : l.drop 1 = [Value.slice A evs.length c] ++ Gm.insCells f := by rw [← q2, ← ev, ← hu]; exact cut_at9 l 1 1
  have q0 : l.drop 0 = [Value.int .i64 x0] ++ ([Value.slice A evs.length c] ++ Gm.insCells f) := by rw [← q1, ← e0']; exact cut_at9 l 0 1
  have ql : l = [Value.int .i64 x0] ++ ([Value.slice A evs.length c] ++ Gm.insCells f) := q0
  rw [ql]
  rfl
theorem agg_of {b0 : Nat} {v : Value} {t : TypeId} {d : TypeDesc} (hu : Try.prog.underlying t = some d) (hd : d.isRow = true) (hv : Value.okWide Try.prog w .any b0 t v) : ∃ cs, v = .agg cs ∧ cs.size = Try.prog.cellsOf t := by
  cases d <;> first | (cases hd; done) | (obtain ⟨cs, h1, h2, _⟩ : ∃ cs, v = .agg cs ∧ cs.size = Try.prog.cellsOf t ∧ Row.okWide Try.prog w .any b0 t cs := (by simpa [Value.okWide, hu] using hv); exact ⟨cs, h1, h2⟩)
theorem open_bytes {b0 : Nat} {v : Value} {d : DataW H} {p : List MemPlace} (hv : Value.okWide Try.prog w .any b0 27 v) (h : DataW.Trod enc Try.prog w base spare held 27 v d p) :
    ∃ (A : Option Addr) (c : Nat) (l : List Int), v = .slice A l.length c ∧ Im.IsBytes l ∧ l.length ≤ maxLen ∧ l.length ≤ c ∧ Lies w w.heap.size 1 A l.length (Im.u8s l) := by
  have hag : ∀ cs, v ≠ .agg cs := fun cs e => by subst e; simp [Value.okWide, Try.underlying27, Cell.okWide, Cell.ok] at hv
  obtain ⟨A, c, l, h1, h2, h3, h4, h5⟩ := open_slice_c (enc := enc) (w := w) (base := base) (spare := spare) (held := held) (fun x : Int => [Value.int .u8 x]) 1 (fun x => 0 ≤ x ∧ x ≤ 255) 0 Try.underlying27 (by kernel_rfl) (by decide) (fun _ => rfl) (fun hl ht => by
    obtain ⟨x, e, _, w⟩ := DataW.trod_int Try.underlying5 ht
    exact ⟨x, e, Bd.u8 w⟩) hag h
  refine ⟨A, c, l, h1, h2, h3, h5, ?_⟩
  have e : ∀ l : List Int, (l.flatMap fun x => [Value.int .u8 x]) = Im.u8s l := fun l => by
    unfold Im.u8s
    induction l with
    | nil => rfl
    | cons a l ih => rw [List.flatMap_cons, ih]; rfl
  rw [← e]
  exact h4
end
end Go.Proofs.Ytgmlbimgcifenaa
namespace Go.Proofs.Ytgmlbimgcifenaa
open Go.ChangeShapes Go.WideShapes Go.ChangeAt Go.RowKit Go.Joins Go.ChangeMaps Go.Deep
section
variable {H : Type} {enc : TypeId × Value → H} {w : World} {base : Nat} {spare : Nat → Bool} {held : Bool}
theorem trod_in3 {base : Nat} {spare : Nat → Bool} {held : Bool} {fuel : Nat} {l : List Value} {y : DataW H × List MemPlace} (hl : l.length = 3) (h : DataW.trod enc Try.prog w base spare held fuel 50 l = some y) : ∃ s : Gm.In, l = s.cells ∧ Gm.tyIn s := by
  match l, hl with
  | [a, b, c], _ =>
    obtain ⟨q, h1, h2, _⟩ := trod_in h
    exact ⟨q, h1, h2⟩
theorem open_msg {b0 : Nat} {v : Value} {d : DataW H} {p : List MemPlace} (hv : Value.okWide Try.prog w .any b0 29 v) (h : DataW.Trod enc Try.prog w base spare held 29 v d p) :
    ∃ q : Ms.S, v = .agg q.cells ∧ Ms.Ty q.m ∧ LiesM w w.heap.size q := by
  obtain ⟨cs, rfl, hsz⟩ := agg_of Try.underlying29 rfl hv
  rw [show Try.prog.cellsOf 29 = 16 from by kernel_rfl] at hsz
  obtain ⟨l⟩ := cs
  obtain ⟨fuel, hf0⟩ := h
  have hf' : DataW.trod enc Try.prog w base spare held fuel 29 l = some (d, p) := hf0
  obtain ⟨xs, n, _, _, _, hlen, hf⟩ := DataW.trod_struct Try.underlying29 hf'
  have ci0 : Try.prog.cellsOf 3 = 1 := by kernel_rfl
  have ci1 : Try.prog.cellsOf 22 = 1 := by kernel_rfl
  have ci2 : Try.prog.cellsOf 23 = 1 := by kernel_rfl
  have ci3 : Try.prog.cellsOf 24 = 1 := by kernel_rfl
  have ci4 : Try.prog.cellsOf 25 = 1 := by kernel_rfl
  have ci5 : Try.prog.cellsOf 26 = 1 := by kernel_rfl
  have ci6 : Try.prog.cellsOf 27 = 1 := by kernel_rfl
  have hl16 : l.length = 16 := by simpa using hsz
  match l, hl16, xs, hlen with
  | [a0, a1, a2, a3, a4, a5, a6, a7, a8, a9, a10, a11, a12, a13, a14, a15], _, [y0, y1, y2, y3, y4, y5, y6, y7, y8, y9, y10, y11, y12, y13, y14, y15], _ =>
    obtain ⟨x0, e0, _, w0⟩ := DataW.trod_int Try.underlying3 (hf 0 _ rfl)
    obtain ⟨x1, e1, _, w1⟩ := DataW.trod_int Try.underlying3 (hf 1 _ rfl)
    obtain ⟨x2, e2, _, w2⟩ := DataW.trod_int Try.underlying22 (hf 2 _ rfl)
    obtain ⟨x3, e3, _, w3⟩ := DataW.trod_int Try.underlying22 (hf 3 _ rfl)
    obtain ⟨x4, e4, _, w4⟩ := DataW.trod_int Try.underlying23 (hf 4 _ rfl)
    obtain ⟨x5, e5, _, w5⟩ := DataW.trod_int Try.underlying3 (hf 5 _ rfl)
    obtain ⟨x6, e6, _, w6⟩ := DataW.trod_int Try.underlying3 (hf 6 _ rfl)
    obtain ⟨x7, e7, _, w7⟩ := DataW.trod_int Try.underlying3 (hf 7 _ rfl)
    obtain ⟨x8, e8, _, w8⟩ := DataW.trod_int Try.underlying3 (hf 8 _ rfl)
    obtain ⟨x9, e9, _, w9⟩ := DataW.trod_int Try.underlying3 (hf 9 _ rfl)
    obtain ⟨x10, e10, _, w10⟩ := DataW.trod_int Try.underlying3 (hf 10 _ rfl)
    obtain ⟨x11, e11, _, w11⟩ := DataW.trod_int Try.underlying23 (hf 11 _ rfl)
    obtain ⟨x12, e12, _, w12⟩ := DataW.trod_int Try.underlying24 (hf 12 _ rfl)
    simp [ci0, ci1, ci2, ci3, ci4, ci5, ci6] at e0 e1 e2 e3 e4 e5 e6 e7 e8 e9 e10 e11 e12
    subst e0 e1 e2 e3 e4 e5 e6 e7 e8 e9 e10 e11 e12
    have f13 := hf 13 _ rfl
    simp [ci0, ci1, ci2, ci3, ci4, ci5, ci6] at f13
    obtain ⟨b13, m13, k13, hv13⟩ : ∃ a m k, a13 = .slice a m k := by
      rcases DataW.trod_slice Try.underlying25 f13 with ⟨hv, _⟩ | ⟨a, len, cap, elems, rest, k, _, hv, _⟩
      · injection hv with hv; exact ⟨_, _, _, hv⟩
      · injection hv with hv; exact ⟨_, _, _, hv⟩
    subst hv13
    have f14 := hf 14 _ rfl
    simp [ci0, ci1, ci2, ci3, ci4, ci5, ci6] at f14
    obtain ⟨b14, m14, k14, hv14⟩ : ∃ a m k, a14 = .slice a m k := by
      rcases DataW.trod_slice Try.underlying26 f14 with ⟨hv, _⟩ | ⟨a, len, cap, elems, rest, k, _, hv, _⟩
      · injection hv with hv; exact ⟨_, _, _, hv⟩
      · injection hv with hv; exact ⟨_, _, _, hv⟩
    subst hv14
    have f15 := hf 15 _ rfl
    simp [ci0, ci1, ci2, ci3, ci4, ci5, ci6] at f15
    obtain ⟨b15, m15, k15, hv15⟩ : ∃ a m k, a15 = .slice a m k := by
      rcases DataW.trod_slice Try.underlying27 f15 with ⟨hv, _⟩ | ⟨a, len, cap, elems, rest, k, _, hv, _⟩
      · injection hv with hv; exact ⟨_, _, _, hv⟩
      · injection hv with hv; exact ⟨_, _, _, hv⟩
    subst hv15
    obtain ⟨A13, c13, ins, v13, t13, l13, L13⟩ := open_slice (enc := enc) (w := w) (base := base) (spare := spare) (held := held) Gm.In.cells 3 Gm.tyIn ⟨0, 0, 0⟩ Try.underlying25 (by kernel_rfl) (by decide) (fun _ => rfl) (fun hl ht => trod_in3 hl ht) (v := .slice b13 m13 k13) (d := y13.1) (p := y13.2) (fun cs e => by cases e) ⟨n, f13⟩
    obtain ⟨A14, c14, log, v14, t14, l14, L14⟩ := open_slice (enc := enc) (w := w) (base := base) (spare := spare) (held := held) En.S.cells 26 (fun q => En.Ty q.e ∧ q.e.evs.length ≤ maxLen ∧ Lies w w.heap.size 4 q.adr q.e.evs.length (En.evCells q.e.evs)) ⟨⟨0, [], En.in0⟩, none, 0⟩ Try.underlying26 (by kernel_rfl) (by decide) (fun _ => rfl) (fun hl ht => trod_entry hl ht) (v := .slice b14 m14 k14) (d := y14.1) (p := y14.2) (fun cs e => by cases e) ⟨n, f14⟩
    obtain ⟨A15, c15, data, v15, t15, l15, L15⟩ := open_slice (enc := enc) (w := w) (base := base) (spare := spare) (held := held) (fun x : Int => [Value.int .u8 x]) 1 (fun x => 0 ≤ x ∧ x ≤ 255) 0 Try.underlying27 (by kernel_rfl) (by decide) (fun _ => rfl) (fun hl ht => by
      obtain ⟨x, e, _, w⟩ := DataW.trod_int Try.underlying5 ht
      exact ⟨x, e, Bd.u8 w⟩) (v := .slice b15 m15 k15) (d := y15.1) (p := y15.2) (fun cs e => by cases e) ⟨n, f15⟩
    injection v13 with v131 v132 v133
    injection v14 with v141 v142 v143
    injection v15 with v151 v152 v153
    subst v131 v132 v133 v141 v142 v143 v151 v152 v153
    have e : ∀ l : List Int, (l.flatMap fun x => [Value.int .u8 x]) = Im.u8s l := fun l => by
      unfold Im.u8s
      induction l with
      | nil => rfl
      | cons a l ih => rw [List.flatMap_cons, ih]; rfl
    have e15 : (data.flatMap fun x => [Value.int .u8 x]) = Im.u8s data := e data
    refine ⟨⟨⟨x0, x1, x2, x3, x4, x5, x6, x7, x8, x9, x10, x11, x12, ins, log, data⟩, b13, k13, b14, k14, b15, k15⟩, rfl, ⟨Bd.i64 w0, Bd.i64 w1, Bd.u16 w2, Bd.u16 w3, Bd.u32 w4, Bd.i64 w5, Bd.i64 w6, Bd.i64 w7, Bd.i64 w8, Bd.i64 w9, Bd.i64 w10, Bd.u32 w11, Bd.u64 w12, t13, fun q hq => (t14 q hq).1, t15⟩, ⟨L13, ⟨L14, fun q hq => (t14 q hq).2.2, fun q hq => (t14 q hq).2.1⟩, (by rw [← e15]; exact L15), l13, l14, l15⟩⟩
end
end Go.Proofs.Ytgmlbimgcifenaa
namespace Go.Proofs.Ytgmlbimgcifenaa
open Go.RowKit
theorem reffront_any (l m : List En.S) (A B : Option Addr) (n n' c d : Nat) (w : World) (n64 : n ≤ maxLen) (m64 : n' ≤ maxLen) (hr : LiesS w w.heap.size A n l) (hq : LiesS w w.heap.size B n' m) :
    Calls Try.prog 46 #[.slice A n c, .slice B n' d] w fun e w' => e = .returned (.bool (En.frontB l m)) ∧ Below w.heap.size w w' := by
  have hln := hr.len
  have hmn := hq.len
  have HR := qh hr
  have HQ := qh hq
  have KB := qh (Below.refl w.heap.size w)
  unfold maxLen at n64 m64
  clear hr hq
  go_enter Try.func46, Try.ntmps46
  refine Slim.forget 27 rfl rfl fun a0 S D hf => ?_
  have H0 : Slim.Has a0 0 true (.slice A n c) := hf 0 _ rfl
  have H1 : Slim.Has a0 1 true (.slice B n' d) := hf 1 _ rfl
  clear hf
  apply wp_seq_k; intro K0 hK0
  refine wp_region_lit ?_
  refine Slim.va rfl rfl S D (Slim.constc_g rfl) fun a1 o S D H4 => ?_
  replace H0 := o.st H0
  replace H1 := o.st H1
  clear H4 o
  refine wpList_nil ?_
  refine hK0 _ _ ?_
  apply wp_seq_k; intro K1 hK1
  apply wp_seq_k; intro K2 hK2
  refine wp_region_lit ?_
  refine Slim.va rfl rfl S D (Slim.move_g rfl H0 id) fun a2 o S D H6 => ?_
  replace H0 := o.st H0
  replace H1 := o.st H1
  refine Slim.va (v := .int .i64 (n : Int)) rfl rfl S D (Slim.len_g rfl H6 id (by go_simp; first | done | rfl)) fun a3 o S D H7 => ?_
  replace H0 := o.st H0
  replace H1 := o.st H1
  clear H6 o
  refine Slim.va rfl rfl S D (Slim.move_g rfl H1 id) fun a4 o S D H8 => ?_
  replace H0 := o.st H0
  replace H1 := o.st H1
  replace H7 := o.st H7
  refine Slim.va (v := .int .i64 (n' : Int)) rfl rfl S D (Slim.len_g rfl H8 id (by go_simp; first | done | rfl)) fun a5 o S D H9 => ?_
  replace H0 := o.st H0
  replace H1 := o.st H1
  replace H7 := o.st H7
  clear H8 o
  refine Slim.va rfl rfl S D (Slim.bin2_g rfl H7 H9 id id (fun _ _ => Slim.cmp_gtr)) fun a6 o S D H10 => ?_
  replace H0 := o.st H0
  replace H1 := o.st H1
  clear H7 H9 o
  refine wpList_nil ?_
  refine hK2 _ _ ?_
  refine wp_cond_split (Slim.pres H10 rfl) (fun e10 => ?_) (fun e10 => ?_)
  · have hgt : n' < n := by have := of_decide_eq_true e10; omega
    exact Slim.ret_const (t := 4) rfl rfl (by rw [S]; decide) fun a' o => by
      (try simp only [Exit.inBlock, Exit.then])
      exact on_ret rfl (o.defers.trans D) o.here ⟨ret_bool ((En.frontB_no (fun h => by have := h.1; omega)).symm), KB.out⟩
  have hle : n ≤ n' := by have := of_decide_eq_false e10; omega
  clear e10 H10
  refine wp_skip ?_
  refine hK1 _ _ ?_
  apply wp_seq_k; intro K1 hK1
  apply wp_seq_k; intro K2 hK2
  refine wp_region_lit ?_
  refine Slim.va rfl rfl S D (Slim.constc_g rfl) fun a7 o S D H5 => ?_
  replace H0 := o.st H0
  replace H1 := o.st H1
  clear o
  refine wpList_nil ?_
  refine hK2 _ _ ?_
  refine wp_block ?_
  refine wp_loop (fun b V => ∃ k : Nat, b.tmps.size = 27 ∧ b.defers = [] ∧ Slim.Has b 0 true (.slice A n c) ∧ Slim.Has b 1 true (.slice B n' d) ∧ Slim.Has b 5 true (.int .i64 (k : Int)) ∧ k ≤ n ∧ (∀ j (h : j < l.length) (h' : j < m.length), j < k → En.Like l[j].e m[j].e) ∧ Below w.heap.size w V) (fun b _ => n - (intOf (b.tmps.getD 5 undef)).toNat) ⟨0, S, D, H0, H1, H5, Nat.zero_le _, fun j h h' h0 => absurd h0 (by omega), KB.out⟩ ?_
  intro a0 V hI
  clear S D H0 H1 H5 KB
  obtain ⟨k, S, D, H0, H1, H5, hk, hall, hkb⟩ := hI
  have KB := qh hkb
  have HA := qh hall
  have MU := qh (show n - (intOf (a0.tmps.getD 5 undef)).toNat = n - k from by rw [show a0.tmps.getD 5 undef = .int .i64 (k : Int) from Slim.pres H5 rfl]; simp [intOf])
  clear hkb hall
  apply wp_seq_k; intro K3 hK3
  apply wp_seq_k; intro K4 hK4
  refine wp_region_lit ?_
  refine Slim.va rfl rfl S D (Slim.move_g rfl H5 id) fun a1 o S D H11 => ?_
  replace H0 := o.st H0
  replace H1 := o.st H1
  replace H5 := o.st H5
  refine Slim.va rfl rfl S D (Slim.move_g rfl H0 id) fun a2 o S D H12 => ?_
  replace H0 := o.st H0
  replace H1 := o.st H1
  replace H5 := o.st H5
  replace H11 := o.st H11
  refine Slim.va (v := .int .i64 (n : Int)) rfl rfl S D (Slim.len_g rfl H12 id (by go_simp; first | done | rfl)) fun a3 o S D H13 => ?_
  replace H0 := o.st H0
  replace H1 := o.st H1
  replace H5 := o.st H5
  replace H11 := o.st H11
  clear H12 o
  refine Slim.va rfl rfl S D (Slim.bin2_g rfl H11 H13 id id (fun _ _ => Slim.cmp_lss)) fun a4 o S D H14 => ?_
  replace H0 := o.st H0
  replace H1 := o.st H1
  replace H5 := o.st H5
  clear H11 H13 o
  refine wpList_nil ?_
  refine hK4 _ _ ?_
  refine wp_cond_split (Slim.pres H14 rfl) (fun e14 => ?_) (fun e14 => ?_)
  · have hkn : k < n := by have := of_decide_eq_true e14; omega
    have hkn' : (k : Int) < n := by omega
    have hkm' : (k : Int) < n' := by omega
    clear e14 H14
    refine wp_skip ?_
    refine hK3 _ _ ?_
    apply wp_seq_k; intro K5 hK5
    refine wp_block ?_
    apply wp_seq_k; intro K6 hK6
    have LA := HR.out.below KB.out
    have LB := HQ.out.below KB.out
    have hBV : w.heap.size ≤ V.heap.size := KB.out.size
    obtain ⟨pa, hA, hpa, hc1⟩ := LA.at k (by omega)
    obtain ⟨pb, hB, hpb, hc2⟩ := LB.at k (by omega)
    obtain ⟨q, hq⟩ : ∃ q, q = l[k]'(by omega) := ⟨_, rfl⟩
    obtain ⟨u, hu⟩ : ∃ u, u = m[k]'(by omega) := ⟨_, rfl⟩
    rw [← hq] at hc1
    rw [← hu] at hc2
    have hqm : q ∈ l := by rw [hq]; exact List.getElem_mem _
    have hum : u ∈ m := by rw [hu]; exact List.getElem_mem _
    have hca := qh (show ∀ w' : World, (∃ q : Ext V.heap.size V, w' = q.w) → ∀ j v, q.cells[j]? = some v → w'.cell? ((pa.add (k * 26)).add j) = some v from by
      rintro _ ⟨q, rfl⟩ j v hv
      refine (q.h.cell (p := (pa.add (k * 26)).add j) ?_).trans (hc1 j v hv)
      rw [add_block, add_block]; omega)
    have hcb := qh (show ∀ w' : World, (∃ q : Ext V.heap.size V, w' = q.w) → ∀ j v, u.cells[j]? = some v → w'.cell? ((pb.add (k * 26)).add j) = some v from by
      rintro _ ⟨q, rfl⟩ j v hv
      refine (q.h.cell (p := (pb.add (k * 26)).add j) ?_).trans (hc2 j v hv)
      rw [add_block, add_block]; omega)
    have hq64 := LA.few q hqm
    have hu64 := LB.few u hum
    have hlq := qh (fun z : Ext V.heap.size V => ((LA.each q hqm).wider hBV).below z.h |>.wider z.h.size)
    have hlu := qh (fun z : Ext V.heap.size V => ((LB.each u hum).wider hBV).below z.h |>.wider z.h.size)
    have hqk := qh hq
    have huk := qh hu
    clear LA LB hc1 hc2 hq hu hqm hum
    refine wp_region_ext V.heap.size V (by kernel_rfl) (by kernel_rfl) (Below.refl _ _) ?_
    refine Slim.qa rfl rfl S D (fun h0 w hw => (Slim.move_g rfl H0 id) h0) fun a5 o S D H17 => ?_
    replace H0 := o.st H0
    replace H1 := o.st H1
    replace H5 := o.st H5
    refine Slim.qa rfl rfl S D (fun h0 w hw => (Slim.move_g rfl H5 id) h0) fun a6 o S D H18 => ?_
    replace H0 := o.st H0
    replace H1 := o.st H1
    replace H5 := o.st H5
    replace H17 := o.st H17
    refine Slim.qa (v := .pointer (some (pa.add (k * 26)))) rfl rfl S D (fun h0 w hw => (Slim.index_g rfl H17 H18 id id (by rw [hA]; go_simp; first | done | rfl)) h0) fun a7 o S D H19 => ?_
    replace H0 := o.st H0
    replace H1 := o.st H1
    replace H5 := o.st H5
    clear H17 H18 o
    refine Slim.qa (v := .agg (En.cells q.e q.sl)) rfl rfl S D (fun h0 w hw => (Slim.load_g rfl H19 id (Slim.load_any (cs := q.cells) (hca.out w hw) Try.underlying53 rfl en26_info)) h0) fun a8 o S D H20 => ?_
    replace H0 := o.st H0
    replace H1 := o.st H1
    replace H5 := o.st H5
    clear H19 o
    refine Slim.qa rfl rfl S D (fun h0 w hw => (Slim.move_g rfl H1 id) h0) fun a9 o S D H21 => ?_
    replace H0 := o.st H0
    replace H1 := o.st H1
    replace H5 := o.st H5
    replace H20 := o.st H20
    refine Slim.qa rfl rfl S D (fun h0 w hw => (Slim.move_g rfl H5 id) h0) fun a10 o S D H22 => ?_
    replace H0 := o.st H0
    replace H1 := o.st H1
    replace H5 := o.st H5
    replace H20 := o.st H20
    replace H21 := o.st H21
    refine Slim.qa (v := .pointer (some (pb.add (k * 26)))) rfl rfl S D (fun h0 w hw => (Slim.index_g rfl H21 H22 id id (by rw [hB]; go_simp; first | done | rfl)) h0) fun a11 o S D H23 => ?_
    replace H0 := o.st H0
    replace H1 := o.st H1
    replace H5 := o.st H5
    replace H20 := o.st H20
    clear H21 H22 o
    refine Slim.qa (v := .agg (En.cells u.e u.sl)) rfl rfl S D (fun h0 w hw => (Slim.load_g rfl H23 id (Slim.load_any (cs := u.cells) (hcb.out w hw) Try.underlying53 rfl en26_info)) h0) fun a12 o S D H24 => ?_
    replace H0 := o.st H0
    replace H1 := o.st H1
    replace H5 := o.st H5
    replace H20 := o.st H20
    clear H23 o
    refine Slim.qcall_g (t := 25) (c := true) (v := .bool (En.likeB q.e u.e)) rfl (by rw [S]; decide) (Slim.wants_all rfl) (fun h0 w hw => (Slim.calls22_g rfl H20 H24 id id (by go_simp; first | done | rfl)) h0) (fun _ w hw => by obtain ⟨q', rfl⟩ := hw; exact Calls.ext_of (Nat.le_refl _) (refsameen_any q u _ hq64 hu64 (hlq.out q') (hlu.out q'))) fun a13 o => ?_
    replace S := o.size.trans S; replace D := o.defers.trans D
    replace H0 := o.st H0
    replace H1 := o.st H1
    replace H5 := o.st H5
    have H25 : Slim.Has a13 25 true (.bool (En.likeB q.e u.e)) := o.here
    clear H20
    clear H24
    refine Slim.qa rfl rfl S D (fun h0 w hw => (Slim.not_g rfl H25 id) h0) fun a14 o S D H26 => ?_
    replace H0 := o.st H0
    replace H1 := o.st H1
    replace H5 := o.st H5
    clear H25 o
    refine wpQuiet_nil ?_
    rintro _ ⟨q', rfl⟩
    replace KB := qh (KB.out.trans (q'.h.mono hBV))
    refine hK6 _ _ ?_
    refine wp_cond_split (Slim.pres H26 rfl) (fun e26 => ?_) (fun e26 => ?_)
    · exact Slim.ret_const (t := 4) rfl rfl (by rw [S]; decide) fun a' o => by
        (try simp only [Exit.inBlock, Exit.then])
        exact on_ret rfl (o.defers.trans D) o.here ⟨ret_bool ((En.frontB_no (fun h => by have h1 := h.2 k (by omega) (by omega); rw [← hqk.out, ← huk.out] at h1; rw [En.likeB_yes h1] at e26; cases e26)).symm), KB.out⟩
    · refine wp_skip ?_
      simp only [Exit.inBlock, Exit.then]
      refine hK5 _ _ ?_
      refine wp_region_lit ?_
      refine Slim.va rfl rfl S D (Slim.move_g rfl H5 id) fun a15 o S D H15 => ?_
      replace H0 := o.st H0
      replace H1 := o.st H1
      clear H5 o
      refine Slim.va (v := .int .i64 ((k + 1 : Nat) : Int)) rfl rfl S D (Slim.bin_g rfl H15 id (fun _ _ => add_one k (by omega))) fun a16 o S D H16 => ?_
      replace H0 := o.st H0
      replace H1 := o.st H1
      clear H15 o
      refine Slim.va rfl rfl S D (Slim.assign_g rfl H16 id) fun a17 o S D H5 => ?_
      replace H0 := o.st H0
      replace H1 := o.st H1
      clear H16 o
      refine wpList_nil ?_
      refine ⟨⟨k + 1, S, D, H0, H1, H5, hkn, fun t h h' ht => ?_, KB.out⟩, ?_⟩
      · by_cases et : t = k
        · subst et
          rw [← hqk.out, ← huk.out]
          cases hlk : En.likeB q.e u.e
          · rw [hlk] at e26; cases e26
          · exact En.likeB_iff.1 hlk
        · exact HA.out t h h' (by omega)
      · have hm := MU.out
        show _ - (intOf (_ : Value)).toNat < _
        rw [hm, show (_ : Act).tmps.getD 5 undef = .int .i64 ((k + 1 : Nat) : Int) from Slim.pres H5 rfl]
        simp [intOf]; omega
  · have hkn : ¬ k < n := by have := of_decide_eq_false e14; omega
    refine wp_exit ?_
    simp only [Exit.inBlock, Exit.then, if_true]
    refine hK1 _ _ ?_
    exact Slim.ret_const (t := 4) rfl rfl (by rw [S]; decide) fun a' o => by
      (try simp only [Exit.inBlock, Exit.then])
      exact on_ret rfl (o.defers.trans D) o.here ⟨ret_bool ((En.frontB_yes ⟨by omega, fun j h h' => HA.out j h h' (by omega)⟩).symm), KB.out⟩
end Go.Proofs.Ytgmlbimgcifenaa