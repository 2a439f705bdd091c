/-
The program's entry: beginnings; the document's sameness.
-/
import Derived.Test.YtbihnmingedgfaaEs
namespace En
open Go
open Classical in
noncomputable def eqB (l m : List S) : Bool := decide (l.length = m.length ∧ ∀ j (h : j < l.length) (h' : j < m.length), Like l[j].e m[j].e)
open Classical in
theorem eqB_yes {l m : List S} (h : l.length = m.length ∧ ∀ j (h : j < l.length) (h' : j < m.length), Like l[j].e m[j].e) : eqB l m = true := decide_eq_true h
open Classical in
theorem eqB_no {l m : List S} (h : ¬ (l.length = m.length ∧ ∀ j (h : j < l.length) (h' : j < m.length), Like l[j].e m[j].e)) : eqB l m = false := decide_eq_false h
open Classical in
noncomputable def frontB (l m : List S) : Bool := decide (l.length ≤ m.length ∧ ∀ j (h : j < l.length) (h' : j < m.length), Like l[j].e m[j].e)
open Classical in
theorem frontB_yes {l m : List S} (h : l.length ≤ m.length ∧ ∀ j (h : j < l.length) (h' : j < m.length), Like l[j].e m[j].e) : frontB l m = true := decide_eq_true h
open Classical in
theorem frontB_no {l m : List S} (h : ¬ (l.length ≤ m.length ∧ ∀ j (h : j < l.length) (h' : j < m.length), Like l[j].e m[j].e)) : frontB l m = false := decide_eq_false h
theorem front_take {l m : List S} (h : l.length ≤ m.length) : frontB l m = eqB l (m.take l.length) := by
  by_cases hp : ∀ j (h : j < l.length) (h' : j < m.length), Like l[j].e m[j].e
  · rw [frontB_yes ⟨h, hp⟩, eqB_yes ⟨by rw [List.length_take]; omega, fun j h1 h2 => by rw [List.getElem_take]; exact hp j h1 _⟩]
  · rw [frontB_no fun q => hp q.2, eqB_no fun q => hp fun j h1 h2 => by have := q.2 j h1 (by rw [List.length_take]; omega); rwa [List.getElem_take] at this]
end En
namespace Go.Proofs.Ytbihnmingedgfaa
open Go.RowKit Go.Shelf
set_option linter.unusedVariables false
set_option linter.unusedSimpArgs false

theorem en_info26 : (Try.prog.info? 72).map (·.size) = some 26 := en_info
theorem en_store_new {ops : Array Oper} {Q : Exit → Act → World → Prop} {o : Oper} {rest : List Oper} {a : Act} {x y : Operand} {v : World} {old : Array Value} {e : En.E} {s : Value} (hgd : o.guard = none) (ho : o.op = .store 72 x y) (hx : a.eval x = .pointer (some ⟨v.heap.size, 0, none⟩)) (hy : a.eval y = .agg (En.cells e s))
    (hold : old.size = 26) (hs : s.oneCell' = true) (h : wpList Try.prog ops Q rest (a.put o.dst undef) (v.alloc (.cells (En.cells e s) 72))) : wpList Try.prog ops Q (o :: rest) a (v.alloc (.cells old 72)) :=
  wpList_store_new hgd ho hx hy rfl rfl en_info (by rw [En.cells_size]; exact hold) (En.cells_one _ _ hs) h

set_option maxRecDepth 100000 in
set_option maxHeartbeats 4000000 in
theorem eqfunc_any (l m : List En.S) (A B : Option Addr) (n n' c d : Nat) (w : World) (n64 : n ≤ maxLen) (m64 : n' ≤ maxLen) (hr : LiesS w w.heap.size A n l) (hq : LiesS w w.heap.size B n' m) :
    Calls Try.prog 98 #[.slice A n c, .slice B n' d, .func (.func 48) #[] #[]] w fun e w' => e = .returned (.bool (En.eqB l m)) ∧ Below w.heap.size w w' := by
  obtain ⟨r, hr0⟩ : ∃ r, r = En.eqB l m := ⟨_, rfl⟩
  rw [← hr0]
  have HR := Lib.hid hr0
  have n63 : (n : Int) ≤ 9223372036854775807 := by unfold maxLen at n64; omega
  have m63 : (n' : Int) ≤ 9223372036854775807 := by unfold maxLen at m64; omega
  have HN := Lib.hid hr.len
  have HM := Lib.hid hq.len
  clear hr0 n64 m64
  by_cases hnn : n = n'
  · subst hnn
    go_enter Try.func98, Try.ntmps98
    go_wp2
    go_loopw [17] (fun i wr => ∃ k : Nat, k ≤ n ∧ i = .int .i64 k ∧ Below w.heap.size w wr ∧ ∀ j (h : j < l.length) (h' : j < m.length), j < k → En.Like l[j].e m[j].e) (fun i _ => n - (intOf i).toNat)
    case atStart => exact ⟨0, by omega, rfl, Below.refl _ _, fun j _ _ hj => absurd hj (Nat.not_lt_zero j)⟩
    case round =>
      obtain ⟨k, hk, rfl, hb, hall⟩ := hrel
      by_cases hlt : k < n
      · have hk8 : (k : Int) < n := by omega
        have hkl : k < l.length := by have := HN.out; omega
        have hkm : k < m.length := by have := HM.out; omega
        obtain ⟨ad, rfl, hbl, a0⟩ := (hr.below hb).at k hkl
        obtain ⟨bd, rfl, hbm, b0⟩ := (hq.below hb).at k hkm
        have he1 := (hr.below hb).each l[k] (List.getElem_mem hkl)
        have he2 := (hq.below hb).each m[k] (List.getElem_mem hkm)
        have hf1 := hr.few l[k] (List.getElem_mem hkl)
        have hf2 := hq.few m[k] (List.getElem_mem hkm)
        have hck : ∀ j (h : j < l.length) (h' : j < m.length), j < k + 1 → En.Like l[k].e m[k].e → En.Like l[j].e m[j].e := fun j h h' hj hlk => by
          by_cases e : j = k
          · subst e; exact hlk
          · exact hall j h h' (by omega)
        have hno1 : ¬ En.Like l[k].e m[k].e → ¬ (l.length = m.length ∧ ∀ j (h : j < l.length) (h' : j < m.length), En.Like l[j].e m[j].e) := fun h q => h (q.2 k hkl hkm)
        generalize l[k] = u at a0 he1 hf1 hck hno1
        generalize m[k] = v at b0 he2 hf2 hck hno1
        have W0 := Lib.hid (show (wr.alloc (.cells (En.cells u.e u.sl) 72)).heap.size = wr.heap.size + 1 by simp)
        have la1 : ∀ X, Below wr.heap.size wr X → ∀ j x, u.cells[j]? = some x → X.cell? ((ad.add (k * 26)).add j) = some x := fun X hX j x hx => by
          rw [World.cell?_of_block (w := wr) (by rw [add_block, add_block]; exact hX.block _ (Nat.lt_of_lt_of_le hbl hb.size))]
          exact a0 j x hx
        have lb1 : ∀ X, Below wr.heap.size wr X → ∀ j x, v.cells[j]? = some x → X.cell? ((bd.add (k * 26)).add j) = some x := fun X hX j x hx => by
          rw [World.cell?_of_block (w := wr) (by rw [add_block, add_block]; exact hX.block _ (Nat.lt_of_lt_of_le hbm hb.size))]
          exact b0 j x hx
        have LA := Lib.hid (la1 wr (Below.refl _ _))
        have LB := Lib.hid (lb1 (wr.alloc (.cells (En.cells u.e u.sl) 72)) (one_below _ _))
        have hb2 := two_below' wr (.cells (En.cells u.e u.sl) 72) (.cells (En.cells v.e v.sl) 72)
        have P1 := Lib.hid ((Box.made wr 72 (En.cells u.e u.sl)).alloc (.cells (En.cells v.e v.sl) 72))
        have P2 := Lib.hid (Box.made_at (n := wr.heap.size + 1) (wr.alloc (.cells (En.cells u.e u.sl) 72)) 72 (En.cells v.e v.sl) (by simp))
        have cs := Lib.hid (ensame_any u v _ hf1 hf2 (((he1.wider hb.size).below hb2).wider hb2.size) (((he2.wider hb.size).below hb2).wider hb2.size))
        have K2 := Lib.hid (hb.trans (hb2.mono hb.size))
        have sz := hb.size
        have HCK := Lib.hid hck
        have HNO := Lib.hid hno1
        have ltA : (ad.add (k * 26)).block < wr.heap.size := by rw [add_block]; exact Nat.lt_of_lt_of_le hbl hb.size
        have ltB : (bd.add (k * 26)).block < wr.heap.size := by rw [add_block]; exact Nat.lt_of_lt_of_le hbm hb.size
        clear a0 b0 he1 he2 hf1 hf2 hck hno1 la1 lb1 hb2 hall hb hr hq
        obtain ⟨b, hbv⟩ : ∃ b, b = En.likeB u.e v.e := ⟨_, rfl⟩
        rw [← hbv] at cs
        have HBV := Lib.hid hbv
        clear hbv
        go_wp2_with (first | (with_reducible refine alloc_en rfl rfl ?_) | ((with_reducible refine load_at_gate rfl rfl Try.underlying72 rfl en_info26 ?_); first | (apply LoadAt.mk rfl LA.out (En.S.cells_len _); rw [En.S.cells_arr]) | (apply LoadAt.mk rfl LB.out (En.S.cells_len _); rw [En.S.cells_arr])) | (with_reducible refine en_store_new rfl rfl rfl rfl En.zeroC_size rfl ?_) | ((with_reducible refine en_load rfl rfl ?_); apply LoadEn.mk rfl; (focus first | (with_reducible exact P1.out) | (with_reducible exact P2.out)); dsimp only) | (go_at_call 48; ((with_reducible refine (cs.out).mono ?_); rintro r w1 ⟨rfl, hb⟩; have K3 := Lib.hid (K2.out.trans (hb.mono K2.out.size)); clear hb; cases b)))
        · go_ret
          exact ⟨ret_bool (by rw [HR.out]; exact (En.eqB_no (HNO.out fun h => by have := En.likeB_yes h; rw [← HBV.out] at this; cases this)).symm), K3.out⟩
        · go_roundw
          case rel => exact ⟨k + 1, by omega, by go_num, K3.out, fun j h h' hj => HCK.out j h h' hj (En.likeB_iff.1 HBV.out.symm)⟩
          case measure => simp [intOf]; omega
      · have hk8 : ¬ (k : Int) < n := by omega
        have hyes := Lib.hid (show l.length = m.length ∧ ∀ j (h : j < l.length) (h' : j < m.length), En.Like l[j].e m[j].e from ⟨by rw [HN.out, HM.out], fun j h h' => hall j h h' (by have := HN.out; omega)⟩)
        have HB := Lib.hid hb
        clear hall hb hr hq
        go_wp2
        go_ret
        exact ⟨ret_bool (by rw [HR.out]; exact (En.eqB_yes hyes.out).symm), HB.out⟩
  · have hne : ((n : Int) != n') = true := by simp; omega
    have hno := Lib.hid (show ¬ (l.length = m.length ∧ ∀ j (h : j < l.length) (h' : j < m.length), En.Like l[j].e m[j].e) from fun h => hnn (by rw [← HN.out, ← HM.out, h.1]))
    clear hr hq hnn
    go_enter Try.func98, Try.ntmps98
    go_wp2
    go_ret
    exact ⟨ret_bool (by rw [HR.out]; exact (En.eqB_no hno.out).symm), Below.refl _ _⟩

set_option maxRecDepth 100000 in
set_option maxHeartbeats 4000000 in
theorem front_any (l m : List En.S) (A B : Option Addr) (n n' c d : Nat) (w : World) (n64 : n ≤ maxLen) (m64 : n' ≤ maxLen) (hd : n' ≤ d) (hr : LiesS w w.heap.size A n l) (hq : LiesS w w.heap.size B n' m) :
    Calls Try.prog 49 #[.slice A n c, .slice B n' d] w fun e w' => e = .returned (.bool (En.frontB l m)) ∧ Below w.heap.size w w' := by
  have hl := hr.len
  have hm := hq.len
  by_cases hle : n ≤ n'
  · have hsl := fun W => run_slice_to (P := Try.prog) (t := 85) B n' d n Try.underlying85 en_info (by omega) W
    have hfr := En.front_take (l := l) (m := m) (by omega)
    rw [hl] at hfr
    have ce := Lib.hid (eqfunc_any l (m.take n) A B n n c d w n64 n64 hr (hq.take n hle))
    obtain ⟨r, hr0⟩ : ∃ r, r = En.frontB l m := ⟨_, rfl⟩
    rw [← hr0] at hfr ⊢
    rw [← hfr] at ce
    have hle' : (n : Int) ≤ n' := by omega
    clear hr hq hl hm hr0 hfr hle n64 m64 hd
    go_enter Try.func49, Try.ntmps49
    go_wp2_with (go_at_call 98; ((with_reducible refine (ce.out).mono ?_); rintro r w1 ⟨rfl, hb⟩))
    go_ret
    exact ⟨rfl, hb⟩
  · have hno := En.frontB_no (l := l) (m := m) (fun h => by have := h.1; omega)
    rw [hno]
    have hle' : ¬ (n : Int) ≤ n' := by omega
    clear hr hq hl hm n64 m64 hno hle
    go_enter Try.func49, Try.ntmps49
    go_wp2
    go_ret
    exact ⟨rfl, Below.refl _ _⟩

theorem few_any (e : En.E) (A : Option Addr) (n c : Nat) (w : World) : Calls Try.prog 39 #[.agg (En.cells e (.slice A n c))] w fun r w' => r = .returned (.bool (decide ((n : Int) ≤ 20))) ∧ Below w.heap.size w w' := by
  have P0 := Lib.hid (Box.made w 72 (En.cells e (.slice A n c)))
  have c1 := P0.out.cell 1
  rw [En.cells_1] at c1
  go_enter Try.func39, Try.ntmps39
  go_wp2
  go_ret
  exact ⟨rfl, one_below _ _⟩

set_option maxRecDepth 100000 in
set_option maxHeartbeats 4000000 in
theorem refsame_any (q u : En.S) (w : World) (q64 : q.e.evs.length ≤ maxLen) (u64 : u.e.evs.length ≤ maxLen) (hr : Lies w w.heap.size 4 q.adr q.e.evs.length (En.evCells q.e.evs)) (hq : Lies w w.heap.size 4 u.adr u.e.evs.length (En.evCells u.e.evs)) :
    Calls Try.prog 47 #[.agg (En.cells q.e q.sl), .agg (En.cells u.e u.sl)] w fun e w' => e = .returned (.bool (En.likeB q.e u.e)) ∧ Below w.heap.size w w' := by
  obtain ⟨⟨f, l, i⟩, A, c⟩ := q
  obtain ⟨⟨g, m, j⟩, B, d⟩ := u
  dsimp only [En.S.sl] at *
  obtain ⟨r, hr0⟩ : ∃ r, r = En.likeB ⟨f, l, i⟩ ⟨g, m, j⟩ := ⟨_, rfl⟩
  rw [← hr0]
  have HR := Lib.hid hr0
  have P1 := Lib.hid ((Box.made w 72 (En.cells ⟨f, l, i⟩ (.slice A l.length c))).alloc (.cells (En.cells ⟨g, m, j⟩ (.slice B m.length d)) 72))
  have P2 := Lib.hid (Box.made_at (n := w.heap.size + 1) (w.alloc (.cells (En.cells ⟨f, l, i⟩ (.slice A l.length c)) 72)) 72 (En.cells ⟨g, m, j⟩ (.slice B m.length d)) (by simp))
  have hb0 := two_below' w (.cells (En.cells ⟨f, l, i⟩ (.slice A l.length c)) 72) (.cells (En.cells ⟨g, m, j⟩ (.slice B m.length d)) 72)
  have K0 := Lib.hid hb0
  have a0 := P1.out.cell 0
  have a1 := P1.out.cell 1
  have b0 := P2.out.cell 0
  have b1 := P2.out.cell 1
  rw [En.cells_0] at a0 b0
  rw [En.cells_1] at a1 b1
  dsimp only at a0 b0
  have HLA := Lib.hid ((hr.below hb0).wider hb0.size)
  have HLB := Lib.hid ((hq.below hb0).wider hb0.size)
  have hins := fun W => ins_neq i j W
  have hii := En.insEq_iff i j
  generalize En.insEq i j = bi at hins hii
  have HII := Lib.hid hii
  generalize hll : l.length = n at *
  generalize hml : m.length = n' at *
  have HN := Lib.hid hll.symm
  have HM := Lib.hid hml.symm
  have n63 : (n : Int) ≤ 9223372036854775807 := by unfold maxLen at q64; omega
  have m63 : (n' : Int) ≤ 9223372036854775807 := by unfold maxLen at u64; omega
  clear hr hq hb0 hr0 hii q64 u64 hll hml
  (try dsimp only at HLA HLB)
  by_cases hf : f = g
  · subst hf
    have hfb : (f != f) = false := by simp
    cases bi
    · have hno := Lib.hid (show ¬ En.Like ⟨f, l, i⟩ ⟨f, m, j⟩ from fun h => by have := HII.out.2 h.2.2; cases this)
      go_enter Try.func47, Try.ntmps47
      go_wp2_with ((with_reducible refine en_load_ins_g ?_ rfl ?_); (focus first | rfl | kernel_rfl | simp [Region.wanted, yielded]); apply LoadEn.mk rfl; (focus first | (with_reducible exact P1.out) | (with_reducible exact P2.out)); dsimp only)
      go_ret
      exact ⟨ret_bool (by rw [HR.out]; exact (En.likeB_no hno.out).symm), K0.out⟩
    · by_cases hnn : n = n'
      · subst hnn
        have hnb : ((n : Int) != n) = false := by simp
        go_enter Try.func47, Try.ntmps47
        go_wp2_with ((with_reducible refine en_load_ins_g ?_ rfl ?_); (focus first | rfl | kernel_rfl | simp [Region.wanted, yielded]); apply LoadEn.mk rfl; (focus first | (with_reducible exact P1.out) | (with_reducible exact P2.out)); dsimp only)
        go_loopw [5] (fun iv wr => ∃ k : Nat, k ≤ n ∧ iv = .int .i64 k ∧ Below ((w.alloc (.cells (En.cells ⟨f, l, i⟩ (.slice A n c)) 72)).alloc (.cells (En.cells ⟨f, m, j⟩ (.slice B n d)) 72)).heap.size ((w.alloc (.cells (En.cells ⟨f, l, i⟩ (.slice A n c)) 72)).alloc (.cells (En.cells ⟨f, m, j⟩ (.slice B n d)) 72)) wr ∧ ∀ j, j < k → l[j]? = m[j]?) (fun iv _ => n - (intOf iv).toNat)
        case atStart => exact ⟨0, by omega, rfl, Below.refl _ _, fun j hj => absurd hj (Nat.not_lt_zero j)⟩
        case round =>
          obtain ⟨k, hk, rfl, hb, hall⟩ := hrel
          have KB := Lib.hid (K0.out.trans (hb.mono (by simp <;> omega)))
          have p1 := ((P1.out.below hb P1.out.lt).cell 1).trans (En.cells_1 _ _)
          have p2 := ((P2.out.below hb P2.out.lt).cell 1).trans (En.cells_1 _ _)
          have hra := HLA.out.below hb
          have hrb := HLB.out.below hb
          clear a0 a1 b0 b1 P1 P2
          by_cases hlt : k < n
          · have hk8 : (k : Int) < n := by omega
            have hkl : k < l.length := by have := HN.out; omega
            have hkm : k < m.length := by have := HM.out; omega
            obtain ⟨ad, rfl, hbl, a0, a1, a2, a3⟩ := evs_at hra HN.out k hkl
            obtain ⟨bd, rfl, hbm, c0, c1, c2, c3⟩ := evs_at hrb HM.out k hkm
            have hlk : l[k]? = some l[k] := List.getElem?_eq_getElem hkl
            have hmk : m[k]? = some m[k] := List.getElem?_eq_getElem hkm
            generalize l[k] = u at a0 a1 a2 a3 hlk
            generalize m[k] = v at c0 c1 c2 c3 hmk
            obtain ⟨u0, u1, u2, u3⟩ := u
            obtain ⟨v0, v1, v2, v3⟩ := v
            dsimp only at a0 a1 a2 a3 c0 c1 c2 c3
            have hneq := fun W => ev_neq u0 u1 u2 u3 v0 v1 v2 v3 W
            have HB := Lib.hid hb
            have HALL := Lib.hid hall
            have HLK := Lib.hid hlk
            have HMK := Lib.hid hmk
            clear hra hrb hb hall hlk hmk hbl hbm hins HLA HLB K0
            by_cases he : u0 = v0 ∧ u1 = v1 ∧ u2 = v2 ∧ u3 = v3
            · rw [decide_eq_true he] at hneq
              have hnew := Lib.hid (show ∀ j, j < k + 1 → l[j]? = m[j]? from fun j hj => by
                by_cases e : j = k
                · rw [e, HLK.out, HMK.out, he.1, he.2.1, he.2.2.1, he.2.2.2]
                · exact HALL.out j (by omega))
              clear he
              go_upto_region 6 with fail
              go_quiet (fail)
              go_wp2
              go_roundw
              case rel => exact ⟨k + 1, by omega, by go_num, draws_below HB.out _, hnew.out⟩
              case measure => simp [intOf]; omega
            · rw [decide_eq_false he] at hneq
              have hno := Lib.hid (show ¬ En.Like ⟨f, l, i⟩ ⟨f, m, j⟩ from fun h => he (by
                have h1 := HLK.out
                rw [show l = m from h.2.1, HMK.out] at h1
                injection h1 with h1
                injection h1 with h1 h2 h3 h4
                exact ⟨h1.symm, h2.symm, h3.symm, h4.symm⟩))
              clear he
              go_upto_region 6 with fail
              go_quiet (fail)
              go_wp2
              go_ret
              exact ⟨ret_bool (by rw [HR.out]; exact (En.likeB_no hno.out).symm), draws_below KB.out _⟩
          · have hk8 : ¬ (k : Int) < n := by omega
            have hyes := Lib.hid (show l = m from List.ext_getElem? fun i => by
              by_cases hi : i < k
              · exact hall i hi
              · rw [List.getElem?_eq_none (by have := HN.out; omega), List.getElem?_eq_none (by have := HM.out; omega)])
            clear hra hrb hb hall hins HLA HLB K0
            go_wp2
            go_ret
            exact ⟨ret_bool (by rw [HR.out]; exact (En.likeB_yes (show En.Like ⟨f, l, i⟩ ⟨f, m, j⟩ from ⟨rfl, hyes.out, HII.out.1 (by first | rfl | trivial)⟩)).symm), KB.out⟩
      · have hne : ((n : Int) != n') = true := by simp; omega
        have hno := Lib.hid (show ¬ En.Like ⟨f, l, i⟩ ⟨f, m, j⟩ from fun h => hnn (by rw [HN.out, HM.out, show l = m from h.2.1]))
        clear hnn
        go_enter Try.func47, Try.ntmps47
        go_wp2_with ((with_reducible refine en_load_ins_g ?_ rfl ?_); (focus first | rfl | kernel_rfl | simp [Region.wanted, yielded]); apply LoadEn.mk rfl; (focus first | (with_reducible exact P1.out) | (with_reducible exact P2.out)); dsimp only)
        go_ret
        exact ⟨ret_bool (by rw [HR.out]; exact (En.likeB_no hno.out).symm), K0.out⟩
  · have hfb : (f != g) = true := by simpa using hf
    have hno := Lib.hid (show ¬ En.Like ⟨f, l, i⟩ ⟨g, m, j⟩ from fun h => hf h.1)
    clear hf
    go_enter Try.func47, Try.ntmps47
    go_wp2
    go_ret
    exact ⟨ret_bool (by rw [HR.out]; exact (En.likeB_no hno.out).symm), K0.out⟩
end Go.Proofs.Ytbihnmingedgfaa
