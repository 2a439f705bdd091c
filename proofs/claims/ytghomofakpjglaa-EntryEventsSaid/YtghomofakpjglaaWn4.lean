/-
Several texts in one: Ls Et Es Eh Oc Ek Ev Rn.
-/
import Derived.Test.YtghomofakpjglaaWn3
namespace En
open Go
def zeroC : Array Value := cells ⟨0, [], in0⟩ (.slice none 0 0)
theorem zeroC_size : zeroC.size = 26 := rfl
/-- An entry, and where its events lie. -/
structure S where
  e : E
  adr : Option Addr
  cap : Nat
def S.sl (q : S) : Value := .slice q.adr q.e.evs.length q.cap
def S.cells (q : S) : List Value := (En.cells q.e q.sl).toList
def sCells (l : List S) : List Value := l.flatMap S.cells
theorem S.cells_len (q : S) : q.cells.length = 26 := rfl
theorem S.cells_arr (q : S) : q.cells.toArray = En.cells q.e q.sl := by unfold S.cells; exact Array.toArray_toList
theorem sCells_len (l : List S) : (sCells l).length = l.length * 26 := by
  induction l with
  | nil => rfl
  | cons s l ih => unfold sCells at *; rw [List.flatMap_cons, List.length_append, ih, List.length_cons, S.cells_len]; omega
theorem sCells_at (l : List S) (k j : Nat) (hk : k < l.length) (hj : j < 26) : (sCells l)[k * 26 + j]? = l[k].cells[j]? := by
  induction l generalizing k with
  | nil => simp at hk
  | cons s l ih =>
    unfold sCells at *
    rw [List.flatMap_cons]
    match k with
    | 0 => rw [List.getElem?_append_left (by rw [S.cells_len]; omega)]; simp
    | k + 1 =>
      rw [List.getElem?_append_right (by rw [S.cells_len]; omega)]
      have := ih k (by simpa using hk)
      rw [show (k + 1) * 26 + j - s.cells.length = k * 26 + j from by rw [S.cells_len]; omega, this]
      simp
theorem sCells_one (l : List S) : ∀ u ∈ sCells l, u.oneCell' = true := by
  intro u hu
  obtain ⟨q, _, hq⟩ := List.mem_flatMap.1 hu
  have := cells_one q.e q.sl rfl
  rw [Array.all_eq_true'] at this
  exact this u (by unfold S.cells at hq; simpa using hq)
end En
namespace Go.Proofs.Ytghomofakpjglaa
open Go.RowKit Go.Shelf
set_option linter.unusedVariables false
set_option linter.unusedSimpArgs false

theorem en_zero : (Try.prog.info? 60).map (·.zero) = some (some (.agg En.zeroC)) := by kernel_rfl
theorem alloc_en {ops : Array Oper} {Q : Exit → Act → World → Prop} {o : Oper} {rest : List Oper} {a : Act} {w : World} (hgd : o.guard = none) (ho : o.op = .alloc 60)
    (h : wpList Try.prog ops Q rest (a.put o.dst (.pointer (some ⟨w.heap.size, 0, none⟩))) (w.alloc (.cells En.zeroC 60))) : wpList Try.prog ops Q (o :: rest) a w :=
  wpList_alloc_z hgd ho en_zero rfl h
theorem en_built : Try.prog.built 60 [] = some En.zeroC := by kernel_rfl
theorem en_zero_one : En.zeroC.all (·.oneCell') = true := En.cells_one _ _ rfl

theorem en_info26 : (Try.prog.info? 60).map (·.size) = some 26 := en_info
theorem en_store_new {ops : Array Oper} {Q : Exit → Act → World → Prop} {o : Oper} {rest : List Oper} {a : Act} {x y : Operand} {v : World} {old : Array Value} {e : En.E} {s : Value} (hgd : o.guard = none) (ho : o.op = .store 60 x y) (hx : a.eval x = .pointer (some ⟨v.heap.size, 0, none⟩)) (hy : a.eval y = .agg (En.cells e s))
    (hold : old.size = 26) (hs : s.oneCell' = true) (h : wpList Try.prog ops Q rest (a.put o.dst undef) (v.alloc (.cells (En.cells e s) 60))) : wpList Try.prog ops Q (o :: rest) a (v.alloc (.cells old 60)) :=
  wpList_store_new hgd ho hx hy rfl rfl en_info (by rw [En.cells_size]; exact hold) (En.cells_one _ _ hs) h

/-- Entries lie one behind the other, and the events of each. -/
structure LiesS (w : World) (B : Nat) (A : Option Addr) (n : Nat) (l : List En.S) : Prop where
  row : Lies w B 26 A n (En.sCells l)
  each : ∀ q ∈ l, Lies w B 4 q.adr q.e.evs.length (En.evCells q.e.evs)
  few : ∀ q ∈ l, q.e.evs.length ≤ maxLen
section
variable {w w' : World} {B B' n : Nat} {A : Option Addr} {l : List En.S}
theorem LiesS.below (h : LiesS w B A n l) (hb : Below B w w') : LiesS w' B A n l := ⟨h.row.below hb, fun q hq => (h.each q hq).below hb, h.few⟩
theorem LiesS.wider (h : LiesS w B A n l) (hB : B ≤ B') : LiesS w B' A n l := ⟨h.row.wider hB, fun q hq => (h.each q hq).wider hB, h.few⟩
theorem LiesS.len (h : LiesS w B A n l) : l.length = n := by have := h.row.len; rw [En.sCells_len] at this; omega
theorem LiesS.nil : LiesS w B A 0 [] := ⟨⟨rfl, fun h => absurd rfl h, fun _ _ h => absurd rfl h⟩, fun q h => (by cases h), fun q h => (by cases h)⟩
theorem LiesS.at (h : LiesS w B A n l) (k : Nat) (hk : k < l.length) : ∃ ad, A = some ad ∧ ad.block < B ∧ ∀ j v, l[k].cells[j]? = some v → w.cell? ((ad.add (k * 26)).add j) = some v := by
  have hn := h.len
  obtain ⟨ad, rfl, hb⟩ := h.row.start (by omega)
  refine ⟨ad, rfl, hb, fun j v hv => ?_⟩
  have hj : j < 26 := by have := (List.getElem?_eq_some_iff.1 hv).1; rwa [En.S.cells_len] at this
  rw [add_twice]
  exact h.row.cell ad rfl (by omega) _ v (by rw [En.sCells_at l k j hk hj, hv])
theorem LiesS.take (h : LiesS w B A n l) (k : Nat) (hk : k ≤ n) : LiesS w B A k (l.take k) := by
  have hn := h.len
  refine ⟨⟨by rw [En.sCells_len, List.length_take]; omega, fun h0 => h.row.start (by omega), fun ad e h0 j u hu => ?_⟩, fun q hq => h.each q (List.mem_of_mem_take hq), fun q hq => h.few q (List.mem_of_mem_take hq)⟩
  have hj : j < k * 26 := by have := (List.getElem?_eq_some_iff.1 hu).1; rw [En.sCells_len, List.length_take] at this; omega
  refine h.row.cell ad e (by omega) j u ?_
  have h1 := En.sCells_at l (j / 26) (j % 26) (by omega) (by omega)
  have h2 := En.sCells_at (l.take k) (j / 26) (j % 26) (by rw [List.length_take]; omega) (by omega)
  rw [show j / 26 * 26 + j % 26 = j by omega] at h1 h2
  rw [h1, ← hu, h2]
  congr 2
  simp
end

end Go.Proofs.Ytghomofakpjglaa
namespace En
open Go
end En
namespace Go.Proofs.Ytghomofakpjglaa
open Go.RowKit Go.Shelf
set_option linter.unusedVariables false
set_option linter.unusedSimpArgs false

theorem Lies.boxed {W : World} {S n size : Nat} {t : TypeId} {xs : List Value} (h : Box W S t xs.toArray) (hl : xs.length = n * size) : Lies W W.heap.size size (some ⟨S, 0, none⟩) n xs :=
  ⟨hl, fun _ => ⟨_, rfl, h.lt⟩, fun ad e _ j u hj => by
    injection e with e
    subst e
    have hadd : (⟨S, 0, none⟩ : Addr).add j = ⟨S, j, none⟩ := by unfold Addr.add; split <;> simp_all
    rw [hadd, h.cell j, ← hj]
    simp⟩
/-- What is left behind an entry. -/
def GotEn (b Bb Bp B : Nat) (bs : List Int) (w : World) (r : Ending) (w' : World) : Prop :=
  (∃ e rest S, En.dec bs = some (e, rest) ∧ r = .returned (.tuple #[]) ∧ Rd b Bb Bp rest w' ∧ Rk b Bb B w w' ∧ Box w' B 60 (En.cells e (.slice (some ⟨S, 0, none⟩) e.evs.length e.evs.length)) ∧ Box w' S 71 (En.evCells e.evs).toArray) ∨
  (En.dec bs = none ∧ Pan r ∧ Rk b Bb B w w' ∧ ∃ cs', Box w' B 60 cs' ∧ cs'.size = 26)

set_option maxRecDepth 100000 in
set_option maxHeartbeats 4000000 in
theorem layentry_r (B : Nat) (bs : List Int) (b Bb Bp : Nat) (w : World) (hBy : Im.IsBytes bs) (hbB : b ≤ Bb) (hbP : b ≤ B) (hbw : b ≤ w.heap.size) (h : Rd b Bb Bp bs w) (hP : Box w B 60 En.zeroC) :
    Calls Try.prog 55 #[.func (.func 76) #[] #[.pointer (some ⟨Bp, 0, none⟩)], .pointer (some ⟨B, 0, none⟩)] w (GotEn b Bb Bp B bs w) := by
  have c1 := Lib.hid (part_int 4 4 rfl 0 B 0 60 En.zeroC bs b Bb Bp w (by decide) hBy hbB hbP hbw h hP rfl (by decide) (by decide) (by decide))
  have c2 := fun f bs' X hy h1 h2 h3 => Lib.hid (layevents_r B 60 (En.cells ⟨f, [], En.in0⟩ (.slice none 0 0)) bs' b Bb Bp X hy hbB hbP h1 h2 h3 rfl (by decide) (by decide) (by decide) (by decide))
  have c3 := fun f l S bs' X hy h1 h2 h3 => Lib.hid (layinputs_r f l (.slice (some ⟨S, 0, none⟩) l.length l.length) B bs' b Bb Bp X hy hbB hbP h1 h2 h3)
  have ltP := hP.lt
  have HW := Lib.hid hbw
  have HY := Lib.hid hBy
  have HD := Lib.hid (show En.dec bs = (Im.rdn 4 bs).bind fun a => (En.decEvents a.2).bind fun l => (En.decInputs En.in0 l.2).bind fun f => some (⟨a.1, l.1, f.1⟩, f.2) from rfl)
  clear h hP hbw hBy
  go_enter Try.func55, Try.ntmps55
  go_wp2_with (first | (go_at_call 67; ((with_reducible refine (c1.out).mono ?_); rintro r w1 (⟨f, r1, hr, rfl, hI, hK, hB⟩ | ⟨hn, ⟨ss, rfl⟩, hK, cs', hB, hs⟩); (all_goals first | (have R1 := Lib.hid hr; have Y1 := Lib.hid (Im.rdn_inv HY.out hr).2.2.2; have P1 := Lib.hid (show Box w1 B 60 (En.cells ⟨f, [], En.in0⟩ (.slice none 0 0)) from hB); have I1 := Lib.hid hI; have K1 := Lib.hid hK; clear hr hI hK hB c1) | (have N1 := Lib.hid hn; have F1 := Lib.hid hK; have G1 := Lib.hid hB; have S1 := Lib.hid hs; clear hn hK hB hs c1)))) | (go_at_call 78; ((with_reducible refine ((c2 _ _ _ Y1.out (Nat.le_trans HW.out K1.out.below.size) I1.out P1.out).out).mono ?_); rintro r w2 (⟨l, r2, S, hr, rfl, hI, hK, hB, hE⟩ | ⟨hn, ⟨ss, rfl⟩, hK, cs', hB, hs⟩); (all_goals first | (have R2 := Lib.hid hr; rw [En.cells_evs] at hB; have P2 := Lib.hid (show Box w2 B 60 (En.cells ⟨f, l, En.in0⟩ (.slice (some ⟨S, 0, none⟩) l.length l.length)) from hB); have I2 := Lib.hid hI; have E2 := Lib.hid hE; have K2 := Lib.hid (K1.out.trans hK); clear hr hI hK hB hE c2) | (have N2 := Lib.hid hn; have F2 := Lib.hid (K1.out.trans hK); have G2 := Lib.hid hB; have S2 := Lib.hid hs; clear hn hK hB hs c2)))) | (go_at_call 80; ((with_reducible refine ((c3 _ _ _ _ _ (En.events_left Y1.out R2.out) (Nat.le_trans HW.out K2.out.below.size) I2.out P2.out).out).mono ?_); rintro r w3 (⟨g, r3, hr, rfl, hI, hK, hB⟩ | ⟨hn, ⟨ss, rfl⟩, hK, cs', hB, hs⟩); (all_goals first | (have R3 := Lib.hid hr; have P3 := Lib.hid hB; have I3 := Lib.hid hI; have E3 := Lib.hid (hK.kb _ _ _ E2.out (Box.apart P2.out E2.out (by decide)).symm (by decide) (by decide)); have K3 := Lib.hid (K2.out.trans hK); clear hr hI hK hB c3) | (have N3 := Lib.hid hn; have F3 := Lib.hid (K2.out.trans hK); have G3 := Lib.hid hB; have S3 := Lib.hid hs; clear hn hK hB hs c3)))))
  · go_end0
    refine .inl ⟨⟨f, l, g⟩, r3, S, ?_, rfl, I3.out, K3.out, P3.out, E3.out⟩
    rw [HD.out, R1.out, Option.bind_some, R2.out, Option.bind_some, R3.out, Option.bind_some]
  · refine ⟨rfl, .inr ⟨?_, ⟨_, rfl⟩, F3.out, _, G3.out, S3.out⟩⟩
    rw [HD.out, R1.out, Option.bind_some, R2.out, Option.bind_some, N3.out, Option.bind_none]
  · refine ⟨rfl, .inr ⟨?_, ⟨_, rfl⟩, F2.out, _, G2.out, S2.out⟩⟩
    rw [HD.out, R1.out, Option.bind_some, N2.out, Option.bind_none]
  · refine ⟨rfl, .inr ⟨?_, ⟨_, rfl⟩, F1.out, _, G1.out, S1.out⟩⟩
    rw [HD.out, N1.out, Option.bind_none]

set_option maxHeartbeats 1000000 in
theorem encatch_get (B Bc : Nat) (u : TypeId) (pv : Value) (older : List PanicEntry) (w : World) (Z : Array Value) (hZ : Z.size = 26) (hb : Box w B 60 Z) (y : Int) (hc : Box w Bc 3 #[.int .i64 y]) :
    CallsD Try.prog 59 #[.pointer (some ⟨B, 0, none⟩), .pointer (some ⟨Bc, 0, none⟩)] (.panicking ({ v := .iface u pv, recovered := false } :: older)) w fun e u' w' =>
      e = .returned (.tuple #[]) ∧ u' = .panicking ({ v := .iface u pv, recovered := true } :: older) ∧ w' = (w.setRow B En.zeroC).setCell ⟨Bc, 0, none⟩ (.int .i64 2) := by
  have ne : B ≠ Bc := Box.apart hb hc (by decide)
  have HB := Lib.hid hb
  have HC := Lib.hid (hc.row_far (fun e => ne e.symm) En.zeroC)
  have c2 := HC.out.cell 0
  have f2 := HC.out.free 0
  have HZ := Lib.hid hZ
  clear hb hc hZ
  refine callsD_of_wpS Try.func59 rfl fun c₀ cs hu => ?_
  apply wpS_seq
  apply wpS_region
  simp [wpOpsS, go_sem, recoverD, hu, Try.ntmps59, Exit.thenS]
  refine wpS_cond (t := true) (by simp [Act.eval, Array.replicate]) ?_
  simp only [if_true]
  refine wpS_of_wp ?_
  go_wp2_with (first | (refine wpList_build_is rfl (t := 60) (l := []) (vs := []) rfl rfl en_built ?_) | ((with_reducible refine blk_gate (t := 60) rfl rfl en_info ?_); apply StoreBlk.mk rfl rfl HB.out en_zero_one En.zeroC_size HZ.out))
  simp [bodyPostS, results, Try.results59]

theorem encatch_idle_get (p q : Addr) (w : World) :
    CallsD Try.prog 59 #[.pointer (some p), .pointer (some q)] .returning w fun e u' w' => e = .returned (.tuple #[]) ∧ u' = .returning ∧ w' = w := by
  refine callsD_of_wpS Try.func59 rfl fun c₀ cs hu => ?_
  apply wpS_seq
  apply wpS_region
  simp [wpOpsS, go_sem, recoverD, hu, Try.ntmps59, Exit.thenS]
  refine wpS_cond (t := false) (by simp [Act.eval, Array.replicate]) ?_
  simp only [Bool.false_eq_true, if_false]
  refine wpS_of_wp (wp_skip ?_)
  cases c₀
  simp_all [bodyPostS, results, Try.results59]

/-- What Get says of bytes. -/
def SaysEn (bs : List Int) (w : World) (r : Ending) (w' : World) : Prop :=
  (∃ e S, En.get bs = some e ∧ r = .returned (.tuple #[.agg (En.cells e (.slice (some ⟨S, 0, none⟩) e.evs.length e.evs.length)), .int .i64 0]) ∧ Box w' S 71 (En.evCells e.evs).toArray ∧ Below w.heap.size w w') ∨
  (En.get bs = none ∧ r = .returned (.tuple #[.agg En.zeroC, .int .i64 2]) ∧ Below w.heap.size w w')

set_option maxRecDepth 100000 in
set_option maxHeartbeats 4000000 in
theorem enget_any (bs : List Int) (A : Option Addr) (n c : Nat) (w : World) (hn : n = bs.length) (hc : n ≤ c) (hBy : Im.IsBytes bs) (hL : Lies w w.heap.size 1 A n (Im.u8s bs)) :
    Calls Try.prog 30 #[.slice A n c] w (SaysEn bs w) := by
  have hmf : ∀ (fn : Fn) (first cap : Array Value) (w : World), (Instr.makeFunc fn first cap).run Try.prog w = .ok (.func fn first cap) w := fun _ _ _ _ => rfl
  have V1 := Lib.hid (((Box.made w 36 #[.slice A n c]).alloc (.cells En.zeroC 60)).alloc (.cells #[.int .i64 0] 3))
  have B1 := Lib.hid ((Box.made_at (n := w.heap.size + 1) (w.alloc (.cells #[.slice A n c] 36)) 60 En.zeroC (by simp)).alloc (.cells #[.int .i64 0] 3))
  have C1 := Lib.hid (Box.made_at (n := w.heap.size + 1 + 1) ((w.alloc (.cells #[.slice A n c] 36)).alloc (.cells En.zeroC 60)) 3 #[.int .i64 0] (by simp))
  have K1 := Lib.hid ((((Below.refl w.heap.size w).alloc (Nat.le_refl _) (.cells #[.slice A n c] 36)).alloc (by simp) (.cells En.zeroC 60)).alloc (by simp <;> omega) (.cells #[.int .i64 0] 3))
  have B2 := Lib.hid (B1.out.alloc (.cells #[.pointer (some ⟨w.heap.size, 0, none⟩)] 82))
  have C2 := Lib.hid (C1.out.alloc (.cells #[.pointer (some ⟨w.heap.size, 0, none⟩)] 82))
  have V2 := Lib.hid (V1.out.alloc (.cells #[.pointer (some ⟨w.heap.size, 0, none⟩)] 82))
  have K2 := Lib.hid (K1.out.alloc K1.out.size (.cells #[.pointer (some ⟨w.heap.size, 0, none⟩)] 82))
  have P2 := Box.made_at (n := w.heap.size + 1 + 1 + 1) (((w.alloc (.cells #[.slice A n c] 36)).alloc (.cells En.zeroC 60)).alloc (.cells #[.int .i64 0] 3)) 82 #[.pointer (some ⟨w.heap.size, 0, none⟩)] (by simp)
  have L2 := hL.below K2.out
  have RD : Rd w.heap.size w.heap.size (w.heap.size + 1 + 1 + 1) bs _ := ⟨P2, A, c, by rw [← hn]; exact V2.out, by rw [← hn]; exact hc, by rw [← hn]; exact L2⟩
  have cl := Lib.hid (layentry_r (w.heap.size + 1) bs w.heap.size w.heap.size _ _ hBy (Nat.le_refl _) (Nat.le_succ _) K2.out.size RD B2.out)
  have HG := Lib.hid (show En.get bs = (En.dec bs).bind fun q => if q.2 = [] ∧ En.Ok q.1 then some q.1 else none from rfl)
  have HY := Lib.hid hBy
  clear hn hL L2 RD P2 hBy
  go_enter_defers Try.func30, Try.ntmps30
  go_upto_region 3 with (first | (with_reducible refine alloc_en rfl rfl ?_) | (go_at_call 46; ((with_reducible refine (reader_any _ _).mono ?_); rintro e w3 ⟨rfl, rfl⟩)) | (go_at_call 55; ((with_reducible refine (cl.out).mono ?_); rintro r w4 (⟨e, rest, S, hr, rfl, hI, hK, hB, hE⟩ | ⟨hn, ⟨ss, rfl⟩, hK, cs', hB, hs⟩); (all_goals first | (obtain ⟨_, A4, c4, hV, _, _⟩ := hI; have R4 := Lib.hid hr; have v4 := hV.cell 0; have B4 := Lib.hid hB; have E4 := Lib.hid hE; have C4 := Lib.hid (hK.kb _ _ _ C2.out (by omega) (by decide) (by decide)); have K4 := Lib.hid (K2.out.trans hK.below); clear hr hV hB hK hE cl) | (have N4 := Lib.hid hn; have B4 := Lib.hid hB; have S4 := Lib.hid hs; have C4 := Lib.hid (hK.kb _ _ _ C2.out (by omega) (by decide) (by decide)); have K4 := Lib.hid (K2.out.trans hK.below); clear hn hB hK hs cl)))))
  rotate_left
  · refine leaves_cons (f := 59) (args := #[.pointer (some ⟨w.heap.size + 1, 0, none⟩), .pointer (some ⟨w.heap.size + 1 + 1, 0, none⟩)]) (by simp) (by simp [go_sem]) ?_
    refine (encatch_get (w.heap.size + 1) (w.heap.size + 1 + 1) _ _ [] _ _ S4.out B4.out _ C4.out).mono ?_
    rintro r u' w'' ⟨rfl, rfl, rfl⟩
    have B8 := (B4.out.row En.zeroC).far (p := ⟨w.heap.size + 1 + 1, 0, none⟩) (show w.heap.size + 1 ≠ w.heap.size + 1 + 1 by omega) (.int .i64 2)
    have C8 := (C4.out.row_far (show w.heap.size + 1 + 1 ≠ w.heap.size + 1 by omega) En.zeroC).put 0 (.int .i64 2)
    have K8 := (Below.setRow' (g := w.heap.size + 1) K4.out (Nat.le_succ _) En.zeroC).setCell (p := ⟨w.heap.size + 1 + 1, 0, none⟩) (by show w.heap.size ≤ w.heap.size + 1 + 1; omega) (.int .i64 2)
    have hr := fun (tmps : Array Value) h1 h2 => results_cells2 (fn := Try.f30) (p := 2) (q := 3) rfl tmps _ (w.heap.size + 1) (w.heap.size + 1 + 1) 60 En.zeroC _ 2 h1 h2 B8 (by simpa using C8) Try.underlying60 rfl (by rw [En.zeroC_size]; exact en_info)
    show Leaves Try.prog _ _ _ [] .returning _
    exact ⟨_, hr _ rfl rfl, .inr ⟨by rw [HG.out, N4.out]; rfl, rfl, K8⟩⟩
  have HDI := Lib.hid (En.dec_inv HY.out R4.out)
  have ltS := E4.out.lt
  clear V1 B1 C1 K1 B2 C2 V2 K2
  cases hrest : rest with
  | cons x xs =>
    have HNE := Lib.hid (show ¬ (rest = [] ∧ En.Ok e) from fun h => by rw [hrest] at h; cases h.1)
    have hl0 : ((rest.length : Int) == 0) = false := by rw [hrest]; simp; omega
    generalize rest.length = m at *
    clear hrest
    go_wp2_with (go_at_call 37; ((with_reducible refine (need_no _ _).mono ?_); rintro r wn ⟨rfl, rfl⟩))
    refine leaves_cons (f := 59) (args := #[.pointer (some ⟨w.heap.size + 1, 0, none⟩), .pointer (some ⟨w.heap.size + 1 + 1, 0, none⟩)]) (by simp) (by simp [go_sem]) ?_
    refine (encatch_get (w.heap.size + 1) (w.heap.size + 1 + 1) _ _ [] _ _ (En.cells_size _ _) B4.out _ C4.out).mono ?_
    rintro r u' w'' ⟨rfl, rfl, rfl⟩
    have B8 := (B4.out.row En.zeroC).far (p := ⟨w.heap.size + 1 + 1, 0, none⟩) (show w.heap.size + 1 ≠ w.heap.size + 1 + 1 by omega) (.int .i64 2)
    have C8 := (C4.out.row_far (show w.heap.size + 1 + 1 ≠ w.heap.size + 1 by omega) En.zeroC).put 0 (.int .i64 2)
    have K8 := (Below.setRow' (g := w.heap.size + 1) K4.out (Nat.le_succ _) En.zeroC).setCell (p := ⟨w.heap.size + 1 + 1, 0, none⟩) (by show w.heap.size ≤ w.heap.size + 1 + 1; omega) (.int .i64 2)
    have hr := fun (tmps : Array Value) h1 h2 => results_cells2 (fn := Try.f30) (p := 2) (q := 3) rfl tmps _ (w.heap.size + 1) (w.heap.size + 1 + 1) 60 En.zeroC _ 2 h1 h2 B8 (by simpa using C8) Try.underlying60 rfl (by rw [En.zeroC_size]; exact en_info)
    show Leaves Try.prog _ _ _ [] .returning _
    exact ⟨_, hr _ rfl rfl, .inr ⟨by rw [HG.out, R4.out, Option.bind_some, if_neg HNE.out], rfl, K8⟩⟩
  | nil =>
    rw [hrest] at v4
    have HNE := Lib.hid hrest
    clear hrest
    have cm := fun X hX => Lib.hid (enmay_any e (some ⟨S, 0, none⟩) e.evs.length e.evs.length X rfl (by have := En.dec_few HY.out R4.out; unfold maxLen; omega) hX)
    have L4 := fun X (hX : Below w4.heap.size w4 X) => (Lies.boxed (E4.out.below hX E4.out.lt) (En.evCells_len _) : Lies X X.heap.size 4 (some ⟨S, 0, none⟩) e.evs.length (En.evCells e.evs))
    obtain ⟨v, hv⟩ : ∃ v, v = decide (En.Ok e) := ⟨_, rfl⟩
    rw [← hv] at cm
    have HV := Lib.hid hv
    clear hv
    have cmw := cm w4 (L4 w4 (Below.refl _ _))
    go_upto_region 5 with (first | (go_at_call 37; first | ((with_reducible refine (need_yes _ _).mono ?_); rintro r wn ⟨rfl, rfl⟩) | ((with_reducible refine (need_any _ _ _).mono ?_); rintro r wn (⟨hz, rfl, rfl⟩ | ⟨hz, ⟨ss, rfl⟩, rfl⟩))) | ((with_reducible refine en_load rfl rfl ?_); apply LoadEn.mk rfl; (focus (with_reducible exact B4.out)); dsimp only) | (go_at_call 28; ((with_reducible refine (cmw.out).mono ?_); rintro r w5 ⟨rfl, hb⟩; have B5 := Lib.hid (B4.out.below hb B4.out.lt); have C5 := Lib.hid (C4.out.below hb C4.out.lt); have E5 := Lib.hid (E4.out.below hb E4.out.lt); have K5 := Lib.hid (K4.out.trans (hb.mono K4.out.size)); clear hb)))
    rotate_left
    · have HNO := Lib.hid (show ¬ (rest = [] ∧ En.Ok e) from fun h => by have := HV.out; rw [hz] at this; exact absurd h.2 (of_decide_eq_false this.symm))
      refine leaves_cons (f := 59) (args := #[.pointer (some ⟨w.heap.size + 1, 0, none⟩), .pointer (some ⟨w.heap.size + 1 + 1, 0, none⟩)]) (by simp) (by simp [go_sem]) ?_
      refine (encatch_get (w.heap.size + 1) (w.heap.size + 1 + 1) _ _ [] _ _ (En.cells_size _ _) B5.out _ C5.out).mono ?_
      rintro r u' w'' ⟨rfl, rfl, rfl⟩
      have B8 := (B5.out.row En.zeroC).far (p := ⟨w.heap.size + 1 + 1, 0, none⟩) (show w.heap.size + 1 ≠ w.heap.size + 1 + 1 by omega) (.int .i64 2)
      have C8 := (C5.out.row_far (show w.heap.size + 1 + 1 ≠ w.heap.size + 1 by omega) En.zeroC).put 0 (.int .i64 2)
      have K8 := (Below.setRow' (g := w.heap.size + 1) K5.out (Nat.le_succ _) En.zeroC).setCell (p := ⟨w.heap.size + 1 + 1, 0, none⟩) (by show w.heap.size ≤ w.heap.size + 1 + 1; omega) (.int .i64 2)
      have hr := fun (tmps : Array Value) h1 h2 => results_cells2 (fn := Try.f30) (p := 2) (q := 3) rfl tmps _ (w.heap.size + 1) (w.heap.size + 1 + 1) 60 En.zeroC _ 2 h1 h2 B8 (by simpa using C8) Try.underlying60 rfl (by rw [En.zeroC_size]; exact en_info)
      show Leaves Try.prog _ _ _ [] .returning _
      exact ⟨_, hr _ rfl rfl, .inr ⟨by rw [HG.out, R4.out, Option.bind_some, if_neg HNO.out], rfl, K8⟩⟩
    have HYES := Lib.hid (show rest = [] ∧ En.Ok e from ⟨HNE.out, of_decide_eq_true (by rw [← HV.out]; exact hz)⟩)
    clear cm cmw
    have C6 := Lib.hid (C5.out.row_far (show w.heap.size + 1 + 1 ≠ w.heap.size + 1 by omega) (En.cells e (.slice (some ⟨S, 0, none⟩) e.evs.length e.evs.length)))
    have c6 := C6.out.cell 0
    have f6 := C6.out.free 0
    go_wp2_with (first | ((with_reducible refine en_load rfl rfl ?_); apply LoadEn.mk rfl; (focus (with_reducible exact B5.out)); dsimp only) | ((with_reducible refine blk_gate (t := 60) rfl rfl en_info ?_); apply StoreBlk.mk rfl rfl B5.out (En.cells_one _ _ rfl) (En.cells_size _ _) (En.cells_size _ _)))
    have ne : w.heap.size + 1 ≠ w.heap.size + 1 + 1 := by omega
    have B7 := (B5.out.row (En.cells e (.slice (some ⟨S, 0, none⟩) e.evs.length e.evs.length))).far (p := ⟨w.heap.size + 1 + 1, 0, none⟩) ne (.int .i64 0)
    have C7 := C6.out.put 0 (.int .i64 0)
    have E7 := (E5.out.row_far (Box.apart E5.out B5.out (by decide)) (En.cells e (.slice (some ⟨S, 0, none⟩) e.evs.length e.evs.length))).far (p := ⟨w.heap.size + 1 + 1, 0, none⟩) (Box.apart E5.out C5.out (by decide)) (.int .i64 0)
    have K7 := (Below.setRow' (g := w.heap.size + 1) K5.out (Nat.le_succ _) (En.cells e (.slice (some ⟨S, 0, none⟩) e.evs.length e.evs.length))).setCell (p := ⟨w.heap.size + 1 + 1, 0, none⟩) (by show w.heap.size ≤ w.heap.size + 1 + 1; omega) (.int .i64 0)
    refine leaves_cons (f := 59) (args := #[.pointer (some ⟨w.heap.size + 1, 0, none⟩), .pointer (some ⟨w.heap.size + 1 + 1, 0, none⟩)]) (by simp) (by simp [go_sem]) ?_
    refine (encatch_idle_get _ _ _).mono ?_
    rintro r u' w'' ⟨rfl, rfl, rfl⟩
    have hr := fun (tmps : Array Value) h1 h2 => results_cells2 (fn := Try.f30) (p := 2) (q := 3) rfl tmps _ (w.heap.size + 1) (w.heap.size + 1 + 1) 60 (En.cells e (.slice (some ⟨S, 0, none⟩) e.evs.length e.evs.length)) _ 0 h1 h2 B7 (by simpa using C7) Try.underlying60 rfl (by rw [En.cells_size]; exact en_info)
    show Leaves Try.prog _ _ _ [] .returning _
    exact ⟨_, hr _ rfl rfl, .inl ⟨e, S, by rw [HG.out, R4.out, Option.bind_some, if_pos HYES.out], rfl, E7, K7⟩⟩
end Go.Proofs.Ytghomofakpjglaa
namespace En
open Go
open Classical in
noncomputable def evsB (l m : List Ev) : Bool := decide (l = m)
open Classical in
noncomputable def likeB (e o : E) : Bool := decide (Like e o)
open Classical in
theorem evsB_yes {l m : List Ev} (h : l = m) : evsB l m = true := decide_eq_true h
open Classical in
theorem evsB_no {l m : List Ev} (h : ¬ l = m) : evsB l m = false := decide_eq_false h
open Classical in
theorem likeB_yes {e o : E} (h : Like e o) : likeB e o = true := decide_eq_true h
open Classical in
theorem likeB_no {e o : E} (h : ¬ Like e o) : likeB e o = false := decide_eq_false h
open Classical in
theorem likeB_iff {e o : E} : likeB e o = true ↔ Like e o := by unfold likeB; exact decide_eq_true_iff
theorem Like.refl (e : E) : Like e e := ⟨rfl, rfl, fun _ _ => rfl⟩
theorem Like.symm {e o : E} (h : Like e o) : Like o e := ⟨h.1.symm, h.2.1.symm, fun i hi => (h.2.2 i hi).symm⟩
theorem Like.trans {e o u : E} (h : Like e o) (k : Like o u) : Like e u := ⟨h.1.trans k.1, h.2.1.trans k.2.1, fun i hi => (h.2.2 i hi).trans (k.2.2 i hi)⟩
end En
namespace Go.Proofs.Ytghomofakpjglaa
open Go.RowKit Go.Shelf
set_option linter.unusedVariables false
set_option linter.unusedSimpArgs false

theorem ev_neq (a b c d e f g h : Int) (w : World) : (binOp .neq 71 (.agg #[.int .i64 a, .int .i64 b, .int .i64 c, .int .i64 d]) (.agg #[.int .i64 e, .int .i64 f, .int .i64 g, .int .i64 h])).run Try.prog w = .ok (.bool (!decide (a = e ∧ b = f ∧ c = g ∧ d = h))) w := by
  have hh : (Op.equalIn 10000 71 (.agg #[.int .i64 a, .int .i64 b, .int .i64 c, .int .i64 d]) (.agg #[.int .i64 e, .int .i64 f, .int .i64 g, .int .i64 h])).run Try.prog w = .ok (decide (a = e ∧ b = f ∧ c = g ∧ d = h)) w := by
    by_cases h1 : a = e
    · by_cases h2 : b = f
      · by_cases h3 : c = g
        · by_cases h4 : d = h
          · subst h1 h2 h3 h4; go_simp <;> simp
          · have h5 : (d == h) = false := by simpa using h4
            subst h1 h2 h3; go_simp <;> simp [h5, h4]
        · have h5 : (c == g) = false := by simpa using h3
          subst h1 h2; go_simp <;> simp [h5, h3]
      · have h5 : (b == f) = false := by simpa using h2
        subst h1; go_simp <;> simp [h5, h2]
    · have h5 : (a == e) = false := by simpa using h1
      go_simp <;> simp [h5, h1]
  generalize #[Value.int .i64 a, .int .i64 b, .int .i64 c, .int .i64 d] = F at *
  generalize #[Value.int .i64 e, .int .i64 f, .int .i64 g, .int .i64 h] = G at *
  go_simp

set_option maxRecDepth 100000 in
set_option maxHeartbeats 4000000 in
theorem evsequal_any (l m : List En.Ev) (A B : Option Addr) (n n' c d : Nat) (w : World) (hn : n = l.length) (hm : n' = m.length) (n64 : n ≤ maxLen) (m64 : n' ≤ maxLen) (hr : Lies w w.heap.size 4 A n (En.evCells l)) (hq : Lies w w.heap.size 4 B n' (En.evCells m)) :
    Calls Try.prog 61 #[.slice A n c, .slice B n' d] w fun e w' => e = .returned (.bool (En.evsB l m)) ∧ Below w.heap.size w w' := by
  obtain ⟨r, hr0⟩ : ∃ r, r = En.evsB l m := ⟨_, rfl⟩
  rw [← hr0]
  have HR := Lib.hid hr0
  have n63 : (n : Int) ≤ 9223372036854775807 := by unfold maxLen at n64; omega
  have m63 : (n' : Int) ≤ 9223372036854775807 := by unfold maxLen at m64; omega
  clear hr0 n64 m64
  by_cases hnn : n = n'
  · subst hnn
    have HN := Lib.hid hn
    have HM := Lib.hid hm
    clear hn hm
    go_enter Try.func61, Try.ntmps61
    go_wp2
    go_loopw [13] (fun i wr => ∃ k : Nat, k ≤ n ∧ i = .int .i64 k ∧ Below w.heap.size w wr ∧ ∀ j, j < k → l[j]? = m[j]?) (fun i _ => n - (intOf i).toNat)
    case atStart => exact ⟨0, by omega, rfl, Below.refl _ _, fun j hj => absurd hj (Nat.not_lt_zero j)⟩
    case round =>
      obtain ⟨k, hk, rfl, hb, hall⟩ := hrel
      by_cases hlt : k < n
      · have hk8 : (k : Int) < n := by omega
        have hkl : k < l.length := by have := HN.out; omega
        have hkm : k < m.length := by have := HM.out; omega
        obtain ⟨ad, rfl, hbl, a0, a1, a2, a3⟩ := evs_at (hr.below hb) HN.out k hkl
        obtain ⟨bd, rfl, hbm, c0, c1, c2, c3⟩ := evs_at (hq.below hb) HM.out k hkm
        have hlk : l[k]? = some l[k] := List.getElem?_eq_getElem hkl
        have hmk : m[k]? = some m[k] := List.getElem?_eq_getElem hkm
        generalize l[k] = u at a0 a1 a2 a3 hlk
        generalize m[k] = v at c0 c1 c2 c3 hmk
        obtain ⟨u0, u1, u2, u3⟩ := u
        obtain ⟨v0, v1, v2, v3⟩ := v
        dsimp only at a0 a1 a2 a3 c0 c1 c2 c3
        have hneq := fun W => ev_neq u0 u1 u2 u3 v0 v1 v2 v3 W
        have HB := Lib.hid hb
        have HALL := Lib.hid hall
        have HLK := Lib.hid hlk
        have HMK := Lib.hid hmk
        clear hr hq hb hall hlk hmk
        by_cases he : u0 = v0 ∧ u1 = v1 ∧ u2 = v2 ∧ u3 = v3
        · rw [decide_eq_true he] at hneq
          have hnew := Lib.hid (show ∀ j, j < k + 1 → l[j]? = m[j]? from fun j hj => by
            by_cases e : j = k
            · rw [e, HLK.out, HMK.out, he.1, he.2.1, he.2.2.1, he.2.2.2]
            · exact HALL.out j (by omega))
          clear he
          go_upto_region 6 with fail
          go_quiet (fail)
          go_wp2
          go_roundw
          case rel => exact ⟨k + 1, by omega, by go_num, draws_below HB.out _, hnew.out⟩
          case measure => simp [intOf]; omega
        · rw [decide_eq_false he] at hneq
          have hno := Lib.hid (show ¬ l = m from fun h => he (by
            have h1 := HLK.out
            rw [h, HMK.out] at h1
            injection h1 with h1
            injection h1 with h1 h2 h3 h4
            exact ⟨h1.symm, h2.symm, h3.symm, h4.symm⟩))
          clear he
          go_upto_region 6 with fail
          go_quiet (fail)
          go_wp2
          go_ret
          exact ⟨ret_bool (by rw [HR.out]; exact (En.evsB_no hno.out).symm), draws_below HB.out _⟩
      · have hk8 : ¬ (k : Int) < n := by omega
        have hyes := Lib.hid (show l = m from List.ext_getElem? fun i => by
          by_cases hi : i < k
          · exact hall i hi
          · rw [List.getElem?_eq_none (by have := HN.out; omega), List.getElem?_eq_none (by have := HM.out; omega)])
        have HB := Lib.hid hb
        clear hr hq hb hall
        go_wp2
        go_ret
        exact ⟨ret_bool (by rw [HR.out]; exact (En.evsB_yes hyes.out).symm), HB.out⟩
  · have hne : ((n : Int) != n') = true := by simp; omega
    have hno := Lib.hid (show ¬ l = m from fun h => hnn (by rw [hn, hm, h]))
    clear hr hq hn hm hnn
    go_enter Try.func61, Try.ntmps61
    go_wp2
    go_ret
    exact ⟨ret_bool (by rw [HR.out]; exact (En.evsB_no hno.out).symm), Below.refl _ _⟩

set_option maxRecDepth 100000 in
set_option maxHeartbeats 4000000 in
theorem ensame_any (q u : En.S) (w : World) (q64 : q.e.evs.length ≤ maxLen) (u64 : u.e.evs.length ≤ maxLen) (hr : Lies w w.heap.size 4 q.adr q.e.evs.length (En.evCells q.e.evs)) (hq : Lies w w.heap.size 4 u.adr u.e.evs.length (En.evCells u.e.evs)) :
    Calls Try.prog 33 #[.agg (En.cells q.e q.sl), .agg (En.cells u.e u.sl)] w fun e w' => e = .returned (.bool (En.likeB q.e u.e)) ∧ Below w.heap.size w w' := by
  obtain ⟨⟨f, l, i⟩, A, c⟩ := q
  obtain ⟨⟨g, m, j⟩, B, d⟩ := u
  dsimp only [En.S.sl] at *
  obtain ⟨r, hr0⟩ : ∃ r, r = En.likeB ⟨f, l, i⟩ ⟨g, m, j⟩ := ⟨_, rfl⟩
  rw [← hr0]
  have HR := Lib.hid hr0
  have P1 := Lib.hid ((Box.made w 60 (En.cells ⟨f, l, i⟩ (.slice A l.length c))).alloc (.cells (En.cells ⟨g, m, j⟩ (.slice B m.length d)) 60))
  have P2 := Lib.hid (Box.made_at (n := w.heap.size + 1) (w.alloc (.cells (En.cells ⟨f, l, i⟩ (.slice A l.length c)) 60)) 60 (En.cells ⟨g, m, j⟩ (.slice B m.length d)) (by simp))
  have hb0 := two_below' w (.cells (En.cells ⟨f, l, i⟩ (.slice A l.length c)) 60) (.cells (En.cells ⟨g, m, j⟩ (.slice B m.length d)) 60)
  have K0 := Lib.hid hb0
  have a0 := P1.out.cell 0
  have a1 := P1.out.cell 1
  have b0 := P2.out.cell 0
  have b1 := P2.out.cell 1
  rw [En.cells_0] at a0 b0
  rw [En.cells_1] at a1 b1
  dsimp only at a0 b0
  have ce := Lib.hid (evsequal_any l m A B l.length m.length c d _ rfl rfl q64 u64 ((hr.below hb0).wider hb0.size) ((hq.below hb0).wider hb0.size))
  have hins := fun W => ins_eql i j W
  have hii := En.insEq_iff i j
  generalize En.insEq i j = bi at hins hii
  have HII := Lib.hid hii
  generalize hll : l.length = n at *
  generalize hml : m.length = n' at *
  clear hr hq hb0 hr0 hii hll hml
  by_cases hf : f = g
  · subst hf
    cases bi
    · have hno := Lib.hid (show ¬ En.Like ⟨f, l, i⟩ ⟨f, m, j⟩ from fun h => by have := HII.out.2 h.2.2; cases this)
      go_enter Try.func33, Try.ntmps33
      go_wp2_with ((with_reducible refine en_load_ins_g ?_ rfl ?_); (focus first | rfl | kernel_rfl | simp [Region.wanted, yielded]); apply LoadEn.mk rfl; (focus first | (with_reducible exact P1.out) | (with_reducible exact P2.out)); dsimp only)
      go_ret
      exact ⟨ret_bool (by rw [HR.out]; exact (En.likeB_no hno.out).symm), K0.out⟩
    · obtain ⟨be, hbe⟩ : ∃ be, be = En.evsB l m := ⟨_, rfl⟩
      rw [← hbe] at ce
      have HL := Lib.hid (show En.likeB ⟨f, l, i⟩ ⟨f, m, j⟩ = be by
        rw [hbe]
        by_cases h : l = m
        · rw [En.evsB_yes h]; exact En.likeB_yes ⟨rfl, h, HII.out.1 rfl⟩
        · rw [En.evsB_no h]; exact En.likeB_no fun k => h k.2.1)
      clear hbe
      go_enter Try.func33, Try.ntmps33
      go_wp2_with (first | ((with_reducible refine en_load_ins_g ?_ rfl ?_); (focus first | rfl | kernel_rfl | simp [Region.wanted, yielded]); apply LoadEn.mk rfl; (focus first | (with_reducible exact P1.out) | (with_reducible exact P2.out)); dsimp only) | (go_at_call 61; ((with_reducible refine (ce.out).mono ?_); rintro r w1 ⟨rfl, hb⟩; have K1 := Lib.hid (K0.out.trans (hb.mono K0.out.size)); clear hb)))
      go_ret
      exact ⟨ret_bool (by rw [HR.out]; simpa using HL.out.symm), K1.out⟩
  · have hfb : (f == g) = false := by simpa using hf
    have hno := Lib.hid (show ¬ En.Like ⟨f, l, i⟩ ⟨g, m, j⟩ from fun h => hf h.1)
    clear hf
    go_enter Try.func33, Try.ntmps33
    go_wp2
    go_ret
    exact ⟨ret_bool (by rw [HR.out]; exact (En.likeB_no hno.out).symm), K0.out⟩
end Go.Proofs.Ytghomofakpjglaa
namespace En
open Go
open Classical in
noncomputable def eqB (l m : List S) : Bool := decide (l.length = m.length ∧ ∀ j (h : j < l.length) (h' : j < m.length), Like l[j].e m[j].e)
open Classical in
theorem eqB_yes {l m : List S} (h : l.length = m.length ∧ ∀ j (h : j < l.length) (h' : j < m.length), Like l[j].e m[j].e) : eqB l m = true := decide_eq_true h
open Classical in
theorem eqB_no {l m : List S} (h : ¬ (l.length = m.length ∧ ∀ j (h : j < l.length) (h' : j < m.length), Like l[j].e m[j].e)) : eqB l m = false := decide_eq_false h
open Classical in
noncomputable def frontB (l m : List S) : Bool := decide (l.length ≤ m.length ∧ ∀ j (h : j < l.length) (h' : j < m.length), Like l[j].e m[j].e)
open Classical in
theorem frontB_yes {l m : List S} (h : l.length ≤ m.length ∧ ∀ j (h : j < l.length) (h' : j < m.length), Like l[j].e m[j].e) : frontB l m = true := decide_eq_true h
open Classical in
theorem frontB_no {l m : List S} (h : ¬ (l.length ≤ m.length ∧ ∀ j (h : j < l.length) (h' : j < m.length), Like l[j].e m[j].e)) : frontB l m = false := decide_eq_false h
theorem front_take {l m : List S} (h : l.length ≤ m.length) : frontB l m = eqB l (m.take l.length) := by
  by_cases hp : ∀ j (h : j < l.length) (h' : j < m.length), Like l[j].e m[j].e
  · rw [frontB_yes ⟨h, hp⟩, eqB_yes ⟨by rw [List.length_take]; omega, fun j h1 h2 => by rw [List.getElem_take]; exact hp j h1 _⟩]
  · rw [frontB_no fun q => hp q.2, eqB_no fun q => hp fun j h1 h2 => by have := q.2 j h1 (by rw [List.length_take]; omega); rwa [List.getElem_take] at this]
end En
namespace Go.Proofs.Ytghomofakpjglaa
open Go.RowKit Go.Shelf
set_option linter.unusedVariables false
set_option linter.unusedSimpArgs false

set_option maxRecDepth 100000 in
set_option maxHeartbeats 4000000 in
theorem eqfunc_any (l m : List En.S) (A B : Option Addr) (n n' c d : Nat) (w : World) (n64 : n ≤ maxLen) (m64 : n' ≤ maxLen) (hr : LiesS w w.heap.size A n l) (hq : LiesS w w.heap.size B n' m) :
    Calls Try.prog 62 #[.slice A n c, .slice B n' d, .func (.func 33) #[] #[]] w fun e w' => e = .returned (.bool (En.eqB l m)) ∧ Below w.heap.size w w' := by
  obtain ⟨r, hr0⟩ : ∃ r, r = En.eqB l m := ⟨_, rfl⟩
  rw [← hr0]
  have HR := Lib.hid hr0
  have n63 : (n : Int) ≤ 9223372036854775807 := by unfold maxLen at n64; omega
  have m63 : (n' : Int) ≤ 9223372036854775807 := by unfold maxLen at m64; omega
  have HN := Lib.hid hr.len
  have HM := Lib.hid hq.len
  clear hr0 n64 m64
  by_cases hnn : n = n'
  · subst hnn
    go_enter Try.func62, Try.ntmps62
    go_wp2
    go_loopw [17] (fun i wr => ∃ k : Nat, k ≤ n ∧ i = .int .i64 k ∧ Below w.heap.size w wr ∧ ∀ j (h : j < l.length) (h' : j < m.length), j < k → En.Like l[j].e m[j].e) (fun i _ => n - (intOf i).toNat)
    case atStart => exact ⟨0, by omega, rfl, Below.refl _ _, fun j _ _ hj => absurd hj (Nat.not_lt_zero j)⟩
    case round =>
      obtain ⟨k, hk, rfl, hb, hall⟩ := hrel
      by_cases hlt : k < n
      · have hk8 : (k : Int) < n := by omega
        have hkl : k < l.length := by have := HN.out; omega
        have hkm : k < m.length := by have := HM.out; omega
        obtain ⟨ad, rfl, hbl, a0⟩ := (hr.below hb).at k hkl
        obtain ⟨bd, rfl, hbm, b0⟩ := (hq.below hb).at k hkm
        have he1 := (hr.below hb).each l[k] (List.getElem_mem hkl)
        have he2 := (hq.below hb).each m[k] (List.getElem_mem hkm)
        have hf1 := hr.few l[k] (List.getElem_mem hkl)
        have hf2 := hq.few m[k] (List.getElem_mem hkm)
        have hck : ∀ j (h : j < l.length) (h' : j < m.length), j < k + 1 → En.Like l[k].e m[k].e → En.Like l[j].e m[j].e := fun j h h' hj hlk => by
          by_cases e : j = k
          · subst e; exact hlk
          · exact hall j h h' (by omega)
        have hno1 : ¬ En.Like l[k].e m[k].e → ¬ (l.length = m.length ∧ ∀ j (h : j < l.length) (h' : j < m.length), En.Like l[j].e m[j].e) := fun h q => h (q.2 k hkl hkm)
        generalize l[k] = u at a0 he1 hf1 hck hno1
        generalize m[k] = v at b0 he2 hf2 hck hno1
        have W0 := Lib.hid (show (wr.alloc (.cells (En.cells u.e u.sl) 60)).heap.size = wr.heap.size + 1 by simp)
        have la1 : ∀ X, Below wr.heap.size wr X → ∀ j x, u.cells[j]? = some x → X.cell? ((ad.add (k * 26)).add j) = some x := fun X hX j x hx => by
          rw [World.cell?_of_block (w := wr) (by rw [add_block, add_block]; exact hX.block _ (Nat.lt_of_lt_of_le hbl hb.size))]
          exact a0 j x hx
        have lb1 : ∀ X, Below wr.heap.size wr X → ∀ j x, v.cells[j]? = some x → X.cell? ((bd.add (k * 26)).add j) = some x := fun X hX j x hx => by
          rw [World.cell?_of_block (w := wr) (by rw [add_block, add_block]; exact hX.block _ (Nat.lt_of_lt_of_le hbm hb.size))]
          exact b0 j x hx
        have LA := Lib.hid (la1 wr (Below.refl _ _))
        have LB := Lib.hid (lb1 (wr.alloc (.cells (En.cells u.e u.sl) 60)) (one_below _ _))
        have hb2 := two_below' wr (.cells (En.cells u.e u.sl) 60) (.cells (En.cells v.e v.sl) 60)
        have P1 := Lib.hid ((Box.made wr 60 (En.cells u.e u.sl)).alloc (.cells (En.cells v.e v.sl) 60))
        have P2 := Lib.hid (Box.made_at (n := wr.heap.size + 1) (wr.alloc (.cells (En.cells u.e u.sl) 60)) 60 (En.cells v.e v.sl) (by simp))
        have cs := Lib.hid (ensame_any u v _ hf1 hf2 (((he1.wider hb.size).below hb2).wider hb2.size) (((he2.wider hb.size).below hb2).wider hb2.size))
        have K2 := Lib.hid (hb.trans (hb2.mono hb.size))
        have sz := hb.size
        have HCK := Lib.hid hck
        have HNO := Lib.hid hno1
        have ltA : (ad.add (k * 26)).block < wr.heap.size := by rw [add_block]; exact Nat.lt_of_lt_of_le hbl hb.size
        have ltB : (bd.add (k * 26)).block < wr.heap.size := by rw [add_block]; exact Nat.lt_of_lt_of_le hbm hb.size
        clear a0 b0 he1 he2 hf1 hf2 hck hno1 la1 lb1 hb2 hall hb hr hq
        obtain ⟨b, hbv⟩ : ∃ b, b = En.likeB u.e v.e := ⟨_, rfl⟩
        rw [← hbv] at cs
        have HBV := Lib.hid hbv
        clear hbv
        go_wp2_with (first | (with_reducible refine alloc_en rfl rfl ?_) | ((with_reducible refine load_at_gate rfl rfl Try.underlying60 rfl en_info26 ?_); first | (apply LoadAt.mk rfl LA.out (En.S.cells_len _); rw [En.S.cells_arr]) | (apply LoadAt.mk rfl LB.out (En.S.cells_len _); rw [En.S.cells_arr])) | (with_reducible refine en_store_new rfl rfl rfl rfl En.zeroC_size rfl ?_) | ((with_reducible refine en_load rfl rfl ?_); apply LoadEn.mk rfl; (focus first | (with_reducible exact P1.out) | (with_reducible exact P2.out)); dsimp only) | (go_at_call 33; ((with_reducible refine (cs.out).mono ?_); rintro r w1 ⟨rfl, hb⟩; have K3 := Lib.hid (K2.out.trans (hb.mono K2.out.size)); clear hb; cases b)))
        · go_ret
          exact ⟨ret_bool (by rw [HR.out]; exact (En.eqB_no (HNO.out fun h => by have := En.likeB_yes h; rw [← HBV.out] at this; cases this)).symm), K3.out⟩
        · go_roundw
          case rel => exact ⟨k + 1, by omega, by go_num, K3.out, fun j h h' hj => HCK.out j h h' hj (En.likeB_iff.1 HBV.out.symm)⟩
          case measure => simp [intOf]; omega
      · have hk8 : ¬ (k : Int) < n := by omega
        have hyes := Lib.hid (show l.length = m.length ∧ ∀ j (h : j < l.length) (h' : j < m.length), En.Like l[j].e m[j].e from ⟨by rw [HN.out, HM.out], fun j h h' => hall j h h' (by have := HN.out; omega)⟩)
        have HB := Lib.hid hb
        clear hall hb hr hq
        go_wp2
        go_ret
        exact ⟨ret_bool (by rw [HR.out]; exact (En.eqB_yes hyes.out).symm), HB.out⟩
  · have hne : ((n : Int) != n') = true := by simp; omega
    have hno := Lib.hid (show ¬ (l.length = m.length ∧ ∀ j (h : j < l.length) (h' : j < m.length), En.Like l[j].e m[j].e) from fun h => hnn (by rw [← HN.out, ← HM.out, h.1]))
    clear hr hq hnn
    go_enter Try.func62, Try.ntmps62
    go_wp2
    go_ret
    exact ⟨ret_bool (by rw [HR.out]; exact (En.eqB_no hno.out).symm), Below.refl _ _⟩

set_option maxRecDepth 100000 in
set_option maxHeartbeats 4000000 in
theorem front_any (l m : List En.S) (A B : Option Addr) (n n' c d : Nat) (w : World) (n64 : n ≤ maxLen) (m64 : n' ≤ maxLen) (hd : n' ≤ d) (hr : LiesS w w.heap.size A n l) (hq : LiesS w w.heap.size B n' m) :
    Calls Try.prog 34 #[.slice A n c, .slice B n' d] w fun e w' => e = .returned (.bool (En.frontB l m)) ∧ Below w.heap.size w w' := by
  have hl := hr.len
  have hm := hq.len
  by_cases hle : n ≤ n'
  · have hsl := fun W => run_slice_to (P := Try.prog) (t := 73) B n' d n Try.underlying73 en_info (by omega) W
    have hfr := En.front_take (l := l) (m := m) (by omega)
    rw [hl] at hfr
    have ce := Lib.hid (eqfunc_any l (m.take n) A B n n c d w n64 n64 hr (hq.take n hle))
    obtain ⟨r, hr0⟩ : ∃ r, r = En.frontB l m := ⟨_, rfl⟩
    rw [← hr0] at hfr ⊢
    rw [← hfr] at ce
    have hle' : (n : Int) ≤ n' := by omega
    clear hr hq hl hm hr0 hfr hle n64 m64 hd
    go_enter Try.func34, Try.ntmps34
    go_wp2_with (go_at_call 62; ((with_reducible refine (ce.out).mono ?_); rintro r w1 ⟨rfl, hb⟩))
    go_ret
    exact ⟨rfl, hb⟩
  · have hno := En.frontB_no (l := l) (m := m) (fun h => by have := h.1; omega)
    rw [hno]
    have hle' : ¬ (n : Int) ≤ n' := by omega
    clear hr hq hl hm n64 m64 hno hle
    go_enter Try.func34, Try.ntmps34
    go_wp2
    go_ret
    exact ⟨rfl, Below.refl _ _⟩

theorem enfew_any (e : En.E) (A : Option Addr) (n c : Nat) (w : World) : Calls Try.prog 24 #[.agg (En.cells e (.slice A n c))] w fun r w' => r = .returned (.bool (decide ((n : Int) ≤ 20))) ∧ Below w.heap.size w w' := by
  have P0 := Lib.hid (Box.made w 60 (En.cells e (.slice A n c)))
  have c1 := P0.out.cell 1
  rw [En.cells_1] at c1
  go_enter Try.func24, Try.ntmps24
  go_wp2
  go_ret
  exact ⟨rfl, one_below _ _⟩

set_option maxRecDepth 100000 in
set_option maxHeartbeats 4000000 in
theorem refsameen_any (q u : En.S) (w : World) (q64 : q.e.evs.length ≤ maxLen) (u64 : u.e.evs.length ≤ maxLen) (hr : Lies w w.heap.size 4 q.adr q.e.evs.length (En.evCells q.e.evs)) (hq : Lies w w.heap.size 4 u.adr u.e.evs.length (En.evCells u.e.evs)) :
    Calls Try.prog 32 #[.agg (En.cells q.e q.sl), .agg (En.cells u.e u.sl)] w fun e w' => e = .returned (.bool (En.likeB q.e u.e)) ∧ Below w.heap.size w w' := by
  obtain ⟨⟨f, l, i⟩, A, c⟩ := q
  obtain ⟨⟨g, m, j⟩, B, d⟩ := u
  dsimp only [En.S.sl] at *
  obtain ⟨r, hr0⟩ : ∃ r, r = En.likeB ⟨f, l, i⟩ ⟨g, m, j⟩ := ⟨_, rfl⟩
  rw [← hr0]
  have HR := Lib.hid hr0
  have P1 := Lib.hid ((Box.made w 60 (En.cells ⟨f, l, i⟩ (.slice A l.length c))).alloc (.cells (En.cells ⟨g, m, j⟩ (.slice B m.length d)) 60))
  have P2 := Lib.hid (Box.made_at (n := w.heap.size + 1) (w.alloc (.cells (En.cells ⟨f, l, i⟩ (.slice A l.length c)) 60)) 60 (En.cells ⟨g, m, j⟩ (.slice B m.length d)) (by simp))
  have hb0 := two_below' w (.cells (En.cells ⟨f, l, i⟩ (.slice A l.length c)) 60) (.cells (En.cells ⟨g, m, j⟩ (.slice B m.length d)) 60)
  have K0 := Lib.hid hb0
  have a0 := P1.out.cell 0
  have a1 := P1.out.cell 1
  have b0 := P2.out.cell 0
  have b1 := P2.out.cell 1
  rw [En.cells_0] at a0 b0
  rw [En.cells_1] at a1 b1
  dsimp only at a0 b0
  have HLA := Lib.hid ((hr.below hb0).wider hb0.size)
  have HLB := Lib.hid ((hq.below hb0).wider hb0.size)
  have hins := fun W => ins_neq i j W
  have hii := En.insEq_iff i j
  generalize En.insEq i j = bi at hins hii
  have HII := Lib.hid hii
  generalize hll : l.length = n at *
  generalize hml : m.length = n' at *
  have HN := Lib.hid hll.symm
  have HM := Lib.hid hml.symm
  have n63 : (n : Int) ≤ 9223372036854775807 := by unfold maxLen at q64; omega
  have m63 : (n' : Int) ≤ 9223372036854775807 := by unfold maxLen at u64; omega
  clear hr hq hb0 hr0 hii q64 u64 hll hml
  (try dsimp only at HLA HLB)
  by_cases hf : f = g
  · subst hf
    have hfb : (f != f) = false := by simp
    cases bi
    · have hno := Lib.hid (show ¬ En.Like ⟨f, l, i⟩ ⟨f, m, j⟩ from fun h => by have := HII.out.2 h.2.2; cases this)
      go_enter Try.func32, Try.ntmps32
      go_wp2_with ((with_reducible refine en_load_ins_g ?_ rfl ?_); (focus first | rfl | kernel_rfl | simp [Region.wanted, yielded]); apply LoadEn.mk rfl; (focus first | (with_reducible exact P1.out) | (with_reducible exact P2.out)); dsimp only)
      go_ret
      exact ⟨ret_bool (by rw [HR.out]; exact (En.likeB_no hno.out).symm), K0.out⟩
    · by_cases hnn : n = n'
      · subst hnn
        have hnb : ((n : Int) != n) = false := by simp
        go_enter Try.func32, Try.ntmps32
        go_wp2_with ((with_reducible refine en_load_ins_g ?_ rfl ?_); (focus first | rfl | kernel_rfl | simp [Region.wanted, yielded]); apply LoadEn.mk rfl; (focus first | (with_reducible exact P1.out) | (with_reducible exact P2.out)); dsimp only)
        go_loopw [5] (fun iv wr => ∃ k : Nat, k ≤ n ∧ iv = .int .i64 k ∧ Below ((w.alloc (.cells (En.cells ⟨f, l, i⟩ (.slice A n c)) 60)).alloc (.cells (En.cells ⟨f, m, j⟩ (.slice B n d)) 60)).heap.size ((w.alloc (.cells (En.cells ⟨f, l, i⟩ (.slice A n c)) 60)).alloc (.cells (En.cells ⟨f, m, j⟩ (.slice B n d)) 60)) wr ∧ ∀ j, j < k → l[j]? = m[j]?) (fun iv _ => n - (intOf iv).toNat)
        case atStart => exact ⟨0, by omega, rfl, Below.refl _ _, fun j hj => absurd hj (Nat.not_lt_zero j)⟩
        case round =>
          obtain ⟨k, hk, rfl, hb, hall⟩ := hrel
          have KB := Lib.hid (K0.out.trans (hb.mono (by simp <;> omega)))
          have p1 := ((P1.out.below hb P1.out.lt).cell 1).trans (En.cells_1 _ _)
          have p2 := ((P2.out.below hb P2.out.lt).cell 1).trans (En.cells_1 _ _)
          have hra := HLA.out.below hb
          have hrb := HLB.out.below hb
          clear a0 a1 b0 b1 P1 P2
          by_cases hlt : k < n
          · have hk8 : (k : Int) < n := by omega
            have hkl : k < l.length := by have := HN.out; omega
            have hkm : k < m.length := by have := HM.out; omega
            obtain ⟨ad, rfl, hbl, a0, a1, a2, a3⟩ := evs_at hra HN.out k hkl
            obtain ⟨bd, rfl, hbm, c0, c1, c2, c3⟩ := evs_at hrb HM.out k hkm
            have hlk : l[k]? = some l[k] := List.getElem?_eq_getElem hkl
            have hmk : m[k]? = some m[k] := List.getElem?_eq_getElem hkm
            generalize l[k] = u at a0 a1 a2 a3 hlk
            generalize m[k] = v at c0 c1 c2 c3 hmk
            obtain ⟨u0, u1, u2, u3⟩ := u
            obtain ⟨v0, v1, v2, v3⟩ := v
            dsimp only at a0 a1 a2 a3 c0 c1 c2 c3
            have hneq := fun W => ev_neq u0 u1 u2 u3 v0 v1 v2 v3 W
            have HB := Lib.hid hb
            have HALL := Lib.hid hall
            have HLK := Lib.hid hlk
            have HMK := Lib.hid hmk
            clear hra hrb hb hall hlk hmk hbl hbm hins HLA HLB K0
            by_cases he : u0 = v0 ∧ u1 = v1 ∧ u2 = v2 ∧ u3 = v3
            · rw [decide_eq_true he] at hneq
              have hnew := Lib.hid (show ∀ j, j < k + 1 → l[j]? = m[j]? from fun j hj => by
                by_cases e : j = k
                · rw [e, HLK.out, HMK.out, he.1, he.2.1, he.2.2.1, he.2.2.2]
                · exact HALL.out j (by omega))
              clear he
              go_upto_region 6 with fail
              go_quiet (fail)
              go_wp2
              go_roundw
              case rel => exact ⟨k + 1, by omega, by go_num, draws_below HB.out _, hnew.out⟩
              case measure => simp [intOf]; omega
            · rw [decide_eq_false he] at hneq
              have hno := Lib.hid (show ¬ En.Like ⟨f, l, i⟩ ⟨f, m, j⟩ from fun h => he (by
                have h1 := HLK.out
                rw [show l = m from h.2.1, HMK.out] at h1
                injection h1 with h1
                injection h1 with h1 h2 h3 h4
                exact ⟨h1.symm, h2.symm, h3.symm, h4.symm⟩))
              clear he
              go_upto_region 6 with fail
              go_quiet (fail)
              go_wp2
              go_ret
              exact ⟨ret_bool (by rw [HR.out]; exact (En.likeB_no hno.out).symm), draws_below KB.out _⟩
          · have hk8 : ¬ (k : Int) < n := by omega
            have hyes := Lib.hid (show l = m from List.ext_getElem? fun i => by
              by_cases hi : i < k
              · exact hall i hi
              · rw [List.getElem?_eq_none (by have := HN.out; omega), List.getElem?_eq_none (by have := HM.out; omega)])
            clear hra hrb hb hall hins HLA HLB K0
            go_wp2
            go_ret
            exact ⟨ret_bool (by rw [HR.out]; exact (En.likeB_yes (show En.Like ⟨f, l, i⟩ ⟨f, m, j⟩ from ⟨rfl, hyes.out, HII.out.1 (by first | rfl | trivial)⟩)).symm), KB.out⟩
      · have hne : ((n : Int) != n') = true := by simp; omega
        have hno := Lib.hid (show ¬ En.Like ⟨f, l, i⟩ ⟨f, m, j⟩ from fun h => hnn (by rw [HN.out, HM.out, show l = m from h.2.1]))
        clear hnn
        go_enter Try.func32, Try.ntmps32
        go_wp2_with ((with_reducible refine en_load_ins_g ?_ rfl ?_); (focus first | rfl | kernel_rfl | simp [Region.wanted, yielded]); apply LoadEn.mk rfl; (focus first | (with_reducible exact P1.out) | (with_reducible exact P2.out)); dsimp only)
        go_ret
        exact ⟨ret_bool (by rw [HR.out]; exact (En.likeB_no hno.out).symm), K0.out⟩
  · have hfb : (f != g) = true := by simpa using hf
    have hno := Lib.hid (show ¬ En.Like ⟨f, l, i⟩ ⟨g, m, j⟩ from fun h => hf h.1)
    clear hf
    go_enter Try.func32, Try.ntmps32
    go_wp2
    go_ret
    exact ⟨ret_bool (by rw [HR.out]; exact (En.likeB_no hno.out).symm), K0.out⟩
end Go.Proofs.Ytghomofakpjglaa
namespace Go.Proofs.Ytghomofakpjglaa
open Go.RowKit Go.Shelf
set_option linter.unusedVariables false
set_option linter.unusedSimpArgs false

theorem conv_bytes (l : List Int) (m : Nat) (A : Option Addr) (c : Nat) (w : World) (B : Nat) (hm : l.length = m) (hL : Lies w B 1 A m (Im.u8s l)) :
    (convert 36 9 (.slice A m c)).run Try.prog w = .ok (.string (strOfNums l)) w := by
  cases A with
  | none =>
    have hm0 : m = 0 := by
      by_cases h0 : m = 0
      · exact h0
      · obtain ⟨ad, e, _⟩ := hL.start h0
        cases e
    have hl0 : l = [] := List.eq_nil_of_length_eq_zero (by omega)
    subst hl0
    exact run_convert_bytes_nil (P := Try.prog) (w := w) 36 5 Try.underlying36 Try.underlying5 m c 9 Try.underlying9
  | some ad =>
    have hl : (loadCells ad m).run Try.prog w = .ok (l.map (Value.int .u8)).toArray w := by
      have := run_loadCells_list (P := Try.prog) w ad (l.map (Value.int .u8)) (fun j v hj => hL.cell ad rfl (fun h0 => by
        have := (List.getElem?_eq_some_iff.1 hj).1
        rw [List.length_map] at this
        omega) j v hj)
      simpa [hm] using this
    rw [run_convert_bytes_string w 36 9 5 _ m c Try.underlying36 Try.underlying5 Try.underlying9, run_bytesToString w _ m c l hl, foldl_push_bytes]
    simp [strOfNums, ByteArray.empty, ByteArray.emptyWithCapacity]
    rfl

end Go.Proofs.Ytghomofakpjglaa
namespace Go.Proofs.Ytghomofakpjglaa
open Go.RowKit Go.Shelf
set_option linter.unusedVariables false
set_option linter.unusedSimpArgs false

theorem en_fill (e : En.E) (s : Value) : Instr.fill (fun i => some (i * 26, 26)) ((Array.range (1 * 26)).map ((Value.agg En.zeroC).cells[· % (Value.agg En.zeroC).cells.size]!)) [(0, .agg (En.cells e s))] = some (En.cells e s) := by kernel_rfl
theorem en_slice (e : En.E) (s : Value) (W : World) : (Instr.buildSlice 73 1 #[(0, .agg (En.cells e s))]).run Try.prog W = .ok (.slice (some ⟨W.heap.size, 0, none⟩) 1 1) (W.alloc (.cells (En.cells e s) 60)) := by
  have h1 := en_info
  have h2 := en_zero
  cases hq : Try.prog.info? 60 with
  | none => rw [hq] at h1; cases h1
  | some ie =>
    rw [hq] at h1 h2
    have hs : ie.size = 26 := by simpa using h1
    have hz : ie.zero = some (.agg En.zeroC) := by simpa using h2
    exact run_buildSlice W _ _ 1 _ _ ie (.agg En.zeroC) Try.underlying73 hq hz (by rw [hs]; decide) (by rw [hs]; decide) (by rw [hs]; exact en_fill e s)
section
variable {ops : Array Oper} {rest : List Oper} {o : Oper} {a : Act} {w : World} {Q : Exit → Act → World → Prop} {x : Operand} {dst : Option Tmp} {v : Value}
/-- What a list of one entry wants. -/
def BuildEn (ops : Array Oper) (Q : Exit → Act → World → Prop) (rest : List Oper) (dst : Option Tmp) (v : Value) (a : Act) (w : World) : Prop :=
  ∃ (e : En.E) (s : Value), v = .agg (En.cells e s) ∧ wpList Try.prog ops Q rest (a.put dst (.slice (some ⟨w.heap.size, 0, none⟩) 1 1)) (w.alloc (.cells (En.cells e s) 60))
theorem BuildEn.mk {e : En.E} {s : Value} (hv : v = .agg (En.cells e s)) (h : wpList Try.prog ops Q rest (a.put dst (.slice (some ⟨w.heap.size, 0, none⟩) 1 1)) (w.alloc (.cells (En.cells e s) 60))) : BuildEn ops Q rest dst v a w := ⟨e, s, hv, h⟩
theorem en_build_g (hw : Region.wanted o (yielded ops a.tmps) = true) (ho : o.op = .buildSlice 73 1 #[(0, x)]) (h : BuildEn ops Q rest o.dst (a.eval x) a w) : wpList Try.prog ops Q (o :: rest) a w := by
  obtain ⟨e, s, hv, h⟩ := h
  refine wpList_step fun K hK => ?_
  rw [if_pos hw]
  have hr := en_slice e s w
  unfold Oper.wp execOp
  simp only [ho, List.map_toArray, List.map_cons, List.map_nil, hv, Sem.run_bind, hr, Result.andThen_ok, Sem.run_pure]
  exact hK _ _ h
end
theorem LiesS.one {W : World} {S : Nat} {e : En.E} {A : Option Addr} {c : Nat} (h : Box W S 60 (En.cells e (.slice A e.evs.length c))) (hL : Lies W W.heap.size 4 A e.evs.length (En.evCells e.evs)) (hf : e.evs.length ≤ maxLen) : LiesS W W.heap.size (some ⟨S, 0, none⟩) 1 [⟨e, A, c⟩] := by
  refine ⟨Lies.boxed (t := 60) ?_ rfl, fun q hq => ?_, fun q hq => ?_⟩
  · have e1 : (En.sCells [⟨e, A, c⟩]).toArray = En.cells e (.slice A e.evs.length c) := by unfold En.sCells; rw [List.flatMap_cons, List.flatMap_nil, List.append_nil]; exact En.S.cells_arr _
    rw [e1]; exact h
  · obtain rfl := List.mem_singleton.1 hq; exact hL
  · obtain rfl := List.mem_singleton.1 hq; exact hf

theorem enget_yes (e : En.E) (hok : En.Ok e) (hty : En.Ty e) (A : Option Addr) (n c : Nat) (w : World) (hn : n = (En.put e).length) (hc : n ≤ c) (hL : Lies w w.heap.size 1 A n (Im.u8s (En.put e))) :
    Calls Try.prog 30 #[.slice A n c] w fun r w' => ∃ e' S, En.Like e e' ∧ En.get (En.put e) = some e' ∧ r = .returned (.tuple #[.agg (En.cells e' (.slice (some ⟨S, 0, none⟩) e'.evs.length e'.evs.length)), .int .i64 0]) ∧ Box w' S 71 (En.evCells e'.evs).toArray ∧ Below w.heap.size w w' := by
  refine (enget_any (En.put e) A n c w hn hc (En.put_bytes e) hL).mono fun r w' h => ?_
  obtain ⟨e', h1, h2⟩ := En.get_put hok hty
  rcases h with ⟨e'', S, hg, h3⟩ | ⟨hg, _⟩
  · rw [h1] at hg
    injection hg with hg
    subst hg
    exact ⟨e', S, h2, h1, h3⟩
  · rw [h1] at hg; cases hg
theorem enget_no (bs : List Int) (hg : En.get bs = none) (A : Option Addr) (n c : Nat) (w : World) (hn : n = bs.length) (hc : n ≤ c) (hBy : Im.IsBytes bs) (hL : Lies w w.heap.size 1 A n (Im.u8s bs)) :
    Calls Try.prog 30 #[.slice A n c] w fun r w' => r = .returned (.tuple #[.agg En.zeroC, .int .i64 2]) ∧ Below w.heap.size w w' := by
  refine (enget_any bs A n c w hn hc hBy hL).mono fun r w' h => ?_
  rcases h with ⟨e'', S, h1, h3⟩ | ⟨_, h3⟩
  · rw [hg] at h1; cases h1
  · exact h3

namespace En
def e7 : En.E := ⟨7, [], En.in0⟩
def e9 : En.E := ⟨7, [], En.upd En.in0 3 ⟨0, 0, 9⟩⟩
def em : En.E := ⟨-1, [], En.in0⟩
theorem in0_ty : ∀ i, i < 8 → Gm.tyIn (En.in0 i) := fun i _ => by unfold Gm.tyIn En.in0; dsimp only; omega
theorem e7_ok : En.Ok e7 := by decide +kernel
theorem e9_ok : En.Ok e9 := by decide +kernel
theorem em_no : ¬ En.Ok em := by decide +kernel
theorem e7_ty : En.Ty e7 := ⟨by unfold En.i64 e7; dsimp only; omega, fun v h => (by cases h), in0_ty⟩
theorem e7_put : En.put e7 = [7, 0, 0, 0, 0, 0] := by decide +kernel
theorem nil_get : En.get [] = none := rfl
theorem e79 {e : En.E} (h : En.Like e7 e) : ¬ En.Like e e9 := fun k => by
  have := (h.trans k).2.2 3 (by omega)
  have e : (e9.inp 3).b = 9 := rfl
  rw [← this] at e
  cases e
end En
theorem en_built7 (f : Int) : Try.prog.built 60 [(0, .int .i64 f)] = some (En.cells ⟨f, [], En.in0⟩ (.slice none 0 0)) := by kernel_rfl
theorem e9_cells (s : Value) : (En.cells En.e7 s).setIfInBounds 13 (.int .u8 9) = En.cells En.e9 s := rfl
theorem e7_13 (s : Value) : (En.cells En.e7 s)[13]? = some (.int .u8 0) := rfl
theorem str7 : strOfNums [7, 0, 0, 0, 0, 0] = ⟨#[7, 0, 0, 0, 0, 0]⟩ := rfl

set_option maxRecDepth 100000 in
set_option maxHeartbeats 4000000 in
theorem told9_any (w : World) :
    Calls Try.prog 25 #[] w fun e w' => e = .returned (.bool true) ∧ Below w.heap.size w w' := by
  have cpt := fun X => Lib.hid (enput_yes En.e7 none 0 0 X En.e7_ok En.e7_ty.ins rfl ⟨rfl, fun h => absurd rfl h, fun _ _ h => absurd rfl h⟩)
  rw [En.e7_put] at cpt
  have cgt := fun A c X hc hL => Lib.hid (enget_yes En.e7 En.e7_ok En.e7_ty A 6 c X (by rw [En.e7_put]; rfl) hc hL)
  rw [En.e7_put] at cgt
  have cgn : ∀ X, Hid (Calls Try.prog 30 #[.slice none 0 0] X fun e w' => e = .returned (.tuple #[.agg En.zeroC, .int .i64 2]) ∧ Below X.heap.size X w') := fun X => Lib.hid (enget_no [] En.nil_get none 0 0 X rfl (Nat.le_refl _) Im.IsBytes.nil ⟨rfl, fun h => absurd rfl h, fun _ _ h => absurd rfl h⟩)
  have cpn := fun X => Lib.hid (enput_no En.em none 0 0 X En.em_no rfl (Nat.zero_le _) ⟨rfl, fun h => absurd rfl h, fun _ _ h => absurd rfl h⟩)
  have csm := fun e S X (hl : En.Like En.e7 e) (hB : Box X S 71 (En.evCells e.evs).toArray) => Lib.hid (show Calls Try.prog 33 #[.agg (En.cells e (.slice (some ⟨S, 0, none⟩) e.evs.length e.evs.length)), .agg (En.cells En.e9 (.slice none 0 0))] X fun r w' => r = .returned (.bool false) ∧ Below X.heap.size X w' by
    have h0 : e.evs = [] := hl.2.1.symm
    have := ensame_any ⟨e, some ⟨S, 0, none⟩, e.evs.length⟩ ⟨En.e9, none, 0⟩ X (by rw [h0]; exact Nat.zero_le _) (Nat.zero_le _) (Lies.boxed hB (En.evCells_len _)) ⟨rfl, fun h => absurd rfl h, fun _ _ h => absurd rfl h⟩
    rw [En.likeB_no (En.e79 hl)] at this
    exact this)
  have L9 := fun X S (hB : Box X S 60 (En.cells En.e9 (.slice none 0 0))) => (LiesS.one (e := En.e9) (A := none) (c := 0) hB ⟨rfl, fun h => absurd rfl h, fun _ _ h => absurd rfl h⟩ (Nat.zero_le _))
  have cf1 := fun S X hB => Lib.hid (front_any [] [⟨En.e9, none, 0⟩] none (some ⟨S, 0, none⟩) 0 1 0 1 X (Nat.zero_le _) (by decide) (Nat.le_refl _) LiesS.nil (L9 X S hB))
  rw [En.frontB_yes ⟨by decide, fun j h _ => absurd h (Nat.not_lt_zero _)⟩] at cf1
  have cf2 := fun S X hB => Lib.hid (front_any [⟨En.e9, none, 0⟩] [] (some ⟨S, 0, none⟩) none 1 0 1 0 X (by decide) (Nat.zero_le _) (Nat.le_refl _) (L9 X S hB) LiesS.nil)
  rw [En.frontB_no fun h => absurd h.1 (by decide)] at cf2
  have cm := fun X => Lib.hid (enmay_any En.e9 none 0 0 X rfl (Nat.zero_le _) ⟨rfl, fun h => absurd rfl h, fun _ _ h => absurd rfl h⟩)
  rw [decide_eq_true En.e9_ok] at cm
  have hbs := fun W => en_slice En.e9 (.slice none 0 0) W
  have hcv := fun A c W B hL => conv_bytes [7, 0, 0, 0, 0, 0] 6 A c W B rfl hL
  rw [str7] at hcv
  have h9 := e9_cells (.slice none 0 0)
  have h13 := e7_13 (.slice none 0 0)
  have f7 : ∀ e s, En.Like En.e7 e → (En.cells e s)[0]? = some (.int .i64 7) := fun e s h => by rw [En.cells_0, ← h.1]; rfl
  have b7 : Try.prog.built 60 [(0, .int .i64 7)] = some (En.cells En.e7 (.slice none 0 0)) := en_built7 7
  have bm : Try.prog.built 60 [(0, .int .i64 (-1))] = some (En.cells En.em (.slice none 0 0)) := en_built7 (-1)
  have H9 := Lib.hid h9
  have H13 := Lib.hid h13
  have F7 := Lib.hid f7
  have HCV := Lib.hid hcv
  generalize En.e7 = e7 at *
  generalize En.e9 = e9 at *
  generalize En.em = em at *
  clear h9 h13 f7 hcv L9
  go_enter Try.func25, Try.ntmps25
  go_wp2_with (first | ((with_reducible refine en_load rfl rfl ?_); apply LoadEn.mk rfl; (focus first | (with_reducible exact T1.out) | (with_reducible exact T6.out)); dsimp only) | (with_reducible refine alloc_en rfl rfl ?_) | ((with_reducible refine en_store_new rfl rfl rfl rfl En.zeroC_size rfl ?_)) | (refine wpList_build_is rfl (t := 60) (vs := [(0, .int .i64 7)]) rfl rfl b7 ?_; have T1 := Lib.hid (Box.made w 60 (En.cells e7 (.slice none 0 0))); have K1 := Lib.hid (one_below w (.cells (En.cells e7 (.slice none 0 0)) 60))) | (refine wpList_build_is rfl (t := 60) (vs := [(0, .int .i64 (-1))]) rfl rfl bm ?_) | (go_at_call 27; ((with_reducible refine ((cpt _).out).mono ?_); rintro r w2 ⟨A2, c2, rfl, hc2, hL2, hO2, hb⟩; have O2 := Lib.hid hO2; have T2 := Lib.hid (T1.out.below hb T1.out.lt); have K2 := Lib.hid (K1.out.trans (hb.mono K1.out.size)); have L2 := Lib.hid hL2; have C2 := Lib.hid hc2; have cg := cgt A2 c2 _ C2.out L2.out; clear hc2 hL2 hO2 hb cpt)) | (go_at_call 30; ((with_reducible refine (cg.out).mono ?_); rintro r w3 ⟨e', S, hlk, hgt, rfl, hE, hb⟩; have T3 := Lib.hid ((T2.out.below hb T2.out.lt).alloc (.cells (En.cells e' (.slice (some ⟨S, 0, none⟩) e'.evs.length e'.evs.length)) 60)); have K3 := Lib.hid ((K2.out.trans (hb.mono K2.out.size)).alloc (Nat.le_trans K2.out.size hb.size) (.cells (En.cells e' (.slice (some ⟨S, 0, none⟩) e'.evs.length e'.evs.length)) 60)); have G3 := Lib.hid (Box.made w3 60 (En.cells e' (.slice (some ⟨S, 0, none⟩) e'.evs.length e'.evs.length))); have E3 := Lib.hid (hE.alloc (.cells (En.cells e' (.slice (some ⟨S, 0, none⟩) e'.evs.length e'.evs.length)) 60)); have l3 := Nat.lt_of_lt_of_le T2.out.lt hb.size; have O3 := Lib.hid ((own_below O2.out hb (Nat.le_refl _)).alloc (.cells (En.cells e' (.slice (some ⟨S, 0, none⟩) e'.evs.length e'.evs.length)) 60)); have sz3 := hb.size; have HLK := Lib.hid hlk; clear hb cg hE hgt hlk)) | (go_at_call 30; ((with_reducible refine ((cgn _).out).mono ?_); rintro r w4 ⟨rfl, hb⟩; have T4 := Lib.hid ((T3.out.below hb T3.out.lt).alloc (.cells En.zeroC 60)); have K4 := Lib.hid ((K3.out.trans (hb.mono K3.out.size)).alloc (Nat.le_trans K3.out.size hb.size) (.cells En.zeroC 60)); have G4 := Lib.hid ((G3.out.below hb G3.out.lt).alloc (.cells En.zeroC 60)); have E4 := Lib.hid ((E3.out.below hb E3.out.lt).alloc (.cells En.zeroC 60)); have O4 := Lib.hid ((own_below O3.out hb (Nat.le_refl _)).alloc (.cells En.zeroC 60)); clear hb cgn)) | (go_at_call 27; ((with_reducible refine ((cpn _).out).mono ?_); rintro r w5 ⟨rfl, hb⟩; have T5 := T4.out.below hb T4.out.lt; have t5 := (T5.cell 13).trans H13.out; have u5 := T5.free 13; have G5 := G4.out.below hb G4.out.lt; have E5 := E4.out.below hb E4.out.lt; have T6 := Lib.hid (show Box _ w.heap.size 60 (En.cells e9 (.slice none 0 0)) by (have h := T5.put 13 (.int .u8 9); rw [H9.out] at h; exact h)); have K6 := Lib.hid ((K4.out.trans (hb.mono K4.out.size)).setCell (p := ⟨w.heap.size, 13, none⟩) (Nat.le_refl _) (.int .u8 9)); have G6 := Lib.hid (G5.far (p := ⟨w.heap.size, 13, none⟩) (show w3.heap.size ≠ w.heap.size by omega) (.int .u8 9)); have E6 := Lib.hid (E5.far (p := ⟨w.heap.size, 13, none⟩) (Box.apart E5 T5 (by decide)) (.int .u8 9)); have hst := HCV.out _ c2 _ _ (Lies.owned (ownsRow_setCell_other (a := ⟨w.heap.size, 13, none⟩) (own_below O4.out hb (Nat.le_refl _)) (T5.unowned (own_below O4.out hb (Nat.le_refl _)) (by decide)) (.int .u8 9))); have g6 := (G6.out.cell 0).trans (F7.out _ _ HLK.out); clear hb G5 E5)) | ((with_reducible refine en_load_g ?_ rfl ?_); (focus first | rfl | kernel_rfl | simp [Region.wanted, yielded]); apply LoadEn.mk rfl; (focus first | (with_reducible exact T9.out) | (with_reducible exact T8.out) | (with_reducible exact T7.out) | (with_reducible exact T6.out) | (with_reducible exact G6.out)); dsimp only) | ((with_reducible refine en_build_g ?_ rfl ?_); (focus first | rfl | kernel_rfl | simp [Region.wanted, yielded]); apply BuildEn.mk rfl) | (go_at_call 33; ((with_reducible refine ((csm _ _ _ HLK.out E6.out).out).mono ?_); rintro r w7 ⟨rfl, hb⟩; have T7 := Lib.hid (T6.out.below hb T6.out.lt); have K7 := Lib.hid (K6.out.trans (hb.mono K6.out.size)); clear hb)) | (go_at_call 34; first | ((with_reducible refine ((cf1 _ _ (Box.made _ _ _)).out).mono ?_); rintro r w8 ⟨rfl, hb⟩; have T8 := Lib.hid ((T7.out.alloc _).below hb (T7.out.alloc _).lt); have K8 := Lib.hid ((K7.out.alloc K7.out.size _).trans (hb.mono (K7.out.alloc K7.out.size _).size)); clear hb) | ((with_reducible refine ((cf2 _ _ (Box.made _ _ _)).out).mono ?_); rintro r w9 ⟨rfl, hb⟩; have T9 := Lib.hid ((T8.out.alloc _).below hb (T8.out.alloc _).lt); have K9 := Lib.hid ((K8.out.alloc K8.out.size _).trans (hb.mono (K8.out.alloc K8.out.size _).size)); clear hb)) | (go_at_call 28; ((with_reducible refine ((cm _).out).mono ?_); rintro r w10 ⟨rfl, hb⟩; have K10 := Lib.hid (K9.out.trans (hb.mono K9.out.size)); clear hb)))
  go_ret
  exact ⟨rfl, K10.out⟩
end Go.Proofs.Ytghomofakpjglaa
namespace En
open Go
theorem put_len (e : E) : (put e).length = 6 + 5 * e.evs.length + (insBytes e.inp 8).length := by
  unfold put
  simp only [List.length_append, Im.bytesOf_len, evsBytes_len]
  omega
theorem ins_step (f : Nat → Gm.In) (k : Nat) : (insBytes f (k + 1)).length = (insBytes f k).length + (if zero (f k) = true then 0 else 3) := by
  show (insBytes f k ++ (if zero (f k) then [] else inBytes (f k))).length = _
  rw [List.length_append]
  split
  · simp
  · rw [inBytes_len]
theorem row1 {v : Ev} : Row (-1) [v] ↔ evOk v := ⟨fun h => h.1.1, fun h => ⟨⟨h, by have := (place_lt h).1; omega⟩, trivial⟩⟩
theorem row2 {a b : Ev} (ha : evOk a) (hb : evOk b) : Row (-1) [a, b] ↔ (a.kind = b.kind ∧ a.slot < b.slot) ∨ (a.kind = 2 ∧ b.kind = 1) := by
  have h1 := (place_lt ha).1
  have e : Row (-1) [a, b] ↔ place a < place b := ⟨fun h => h.2.1.2, fun h => ⟨⟨ha, by omega⟩, ⟨hb, h⟩, trivial⟩⟩
  rw [e]
  obtain ⟨k1, s1, _⟩ := ha
  obtain ⟨k2, s2, _⟩ := hb
  unfold place
  rcases k1 with k1 | k1 <;> rcases k2 with k2 | k2 <;> rw [k1, k2] <;> simp <;> omega
end En
namespace Go.Proofs.Ytghomofakpjglaa
open Go.RowKit Go.Shelf
set_option linter.unusedVariables false
set_option linter.unusedSimpArgs false

set_option maxRecDepth 100000 in
set_option maxHeartbeats 4000000 in
theorem long9_law (q : En.S) (w : World) (hty : En.Ty q.e) (hn63 : q.e.evs.length ≤ maxLen) (hr : Lies w w.heap.size 4 q.adr q.e.evs.length (En.evCells q.e.evs)) :
    Calls Try.prog 11 #[.agg (En.cells q.e q.sl)] w fun e w' => e = .returned (.bool true) ∧ Below w.heap.size w w' := by
  obtain ⟨e, A, c⟩ := q
  dsimp only [En.S.sl] at *
  have P0 := Lib.hid (Box.made w 60 (En.cells e (.slice A e.evs.length c)))
  have K0 := Lib.hid (one_below w (.cells (En.cells e (.slice A e.evs.length c)) 60))
  have hr0 := (hr.below K0.out).wider K0.out.size
  have ct := fun X => Lib.hid (told9_any X)
  by_cases hok : En.Ok e
  · have hm := En.put_len e
    have hn16 := hok.count
    have cp := Lib.hid (enput_yes e A e.evs.length c _ hok hty.ins rfl hr0)
    generalize (En.put e).length = m at hm cp
    generalize En.put e = bs at cp
    have hib := En.insBytes_le e.inp 8
    generalize hnl : e.evs.length = n at *
    have HM := Lib.hid hm
    have HIB := Lib.hid hib
    clear hr hr0 hty hok hm hn63 hnl hib
    go_enter Try.func11, Try.ntmps11
    go_wp2_with (first | ((with_reducible refine en_load rfl rfl ?_); apply LoadEn.mk rfl; (focus (with_reducible exact P0.out)); dsimp only) | (go_at_call 27; ((with_reducible refine (cp.out).mono ?_); rintro r w1 ⟨A1, c1, rfl, _, _, _, hb⟩; have P1 := Lib.hid (P0.out.below hb P0.out.lt); have K1 := Lib.hid (K0.out.trans (hb.mono K0.out.size)); have p1 := (P1.out.cell 1).trans (En.cells_1 _ _); clear hb cp)))
    go_loopw [5, 6] (fun l i wr => ∃ k : Nat, k ≤ 8 ∧ i = .int .i64 k ∧ l = .int .i64 (6 + 5 * (n : Int) + ((En.insBytes e.inp k).length : Int)) ∧ w1 = wr) (fun _ i _ => 8 - (intOf i).toNat)
    case atStart => exact ⟨0, by omega, rfl, by simp [En.insBytes], rfl⟩
    case round =>
      obtain ⟨k, hk, rfl, rfl, rfl⟩ := hrel
      by_cases hlt : k < 8
      · have hk8 : (k : Int) < 8 := by omega
        have e0 := (P1.out.cell (2 + k * 3)).trans (En.cells_in e _ k 0 hlt (by omega))
        have e1 := (P1.out.cell (2 + k * 3 + 1)).trans (En.cells_in e _ k 1 hlt (by omega))
        have e2 := (P1.out.cell (2 + k * 3 + 2)).trans (En.cells_in e _ k 2 hlt (by omega))
        have hstep := En.ins_step e.inp k
        have hle := En.insBytes_le e.inp k
        obtain ⟨p, hp⟩ : ∃ p, p = e.inp k := ⟨_, rfl⟩
        rw [← hp] at e0 e1 e2 hstep
        obtain ⟨x, y, u⟩ := p
        simp only [Gm.In.cells, List.getElem?_cons_zero, List.getElem?_cons_succ, Nat.add_zero] at e0 e1 e2
        have hneq := fun W => in_neq x y u W
        obtain ⟨q, hq⟩ : ∃ q, q = (En.insBytes e.inp k).length := ⟨_, rfl⟩
        rw [← hq] at hstep hle ⊢
        have HT := Lib.hid hstep
        have ltP := P1.out.lt
        clear hp hq hstep
        cases hz : En.zero ⟨x, y, u⟩
        · rw [hz] at hneq HT
          clear hz
          go_wp2
          go_roundw
          case rel => exact ⟨k + 1, by omega, by go_num, by rw [HT.out]; simp; omega, by first | rfl | trivial⟩
          case measure => simp [intOf]; omega
        · rw [hz] at hneq HT
          clear hz
          go_wp2
          go_roundw
          case rel => exact ⟨k + 1, by omega, by go_num, by rw [HT.out]; simp, by first | rfl | trivial⟩
          case measure => simp [intOf]; omega
      · have hk8 : ¬ (k : Int) < 8 := by omega
        obtain rfl : k = 8 := by omega
        have hmi : (m : Int) = 6 + 5 * (n : Int) + ((En.insBytes e.inp 8).length : Int) := by have := HM.out; omega
        obtain ⟨L, hL⟩ : ∃ L, L = 6 + 5 * (n : Int) + ((En.insBytes e.inp 8).length : Int) := ⟨_, rfl⟩
        rw [← hL] at hmi ⊢
        have HMI := Lib.hid hmi
        clear hL hmi
        go_wp2_with (go_at_call 25; ((with_reducible refine ((ct _).out).mono ?_); rintro r w2 ⟨rfl, hb⟩; have K2 := Lib.hid (K1.out.trans (hb.mono K1.out.size)); clear hb))
        go_ret
        exact ⟨ret_bool (by simp [HMI.out]), K2.out⟩
  · have cp := Lib.hid (enput_no e A e.evs.length c _ hok rfl hn63 hr0)
    clear hr hr0 hty hok
    go_enter Try.func11, Try.ntmps11
    go_wp2_with (first | ((with_reducible refine en_load rfl rfl ?_); apply LoadEn.mk rfl; (focus (with_reducible exact P0.out)); dsimp only) | (go_at_call 27; ((with_reducible refine (cp.out).mono ?_); rintro r w1 ⟨rfl, hb⟩; have K1 := Lib.hid (K0.out.trans (hb.mono K0.out.size)); clear hb)) | (go_at_call 25; ((with_reducible refine ((ct _).out).mono ?_); rintro r w2 ⟨rfl, hb⟩; have K2 := Lib.hid (K1.out.trans (hb.mono K1.out.size)); clear hb)))
    go_ret
    exact ⟨ret_bool (by simp), K2.out⟩
end Go.Proofs.Ytghomofakpjglaa
namespace Sx
open Go Im
set_option linter.unusedVariables false
theorem str_append (a b : List Int) : strOfNums (a ++ b) = strOfNums a ++ strOfNums b := by
  apply ByteArray.ext
  simp [strOfNums, ByteArray.data_append]
theorem str_drop (l : List Int) (n : Nat) : (strOfNums l).extract n (strOfNums l).size = strOfNums (l.drop n) := by
  apply ByteArray.ext
  rw [strOfNums_size]
  simp [strOfNums, ByteArray.data_extract, List.map_drop]
  exact List.take_of_length_le (by simp)
theorem str_at {l : List Int} (hB : IsBytes l) (k : Nat) (h : k < l.length) (h' : k < (strOfNums l).size) : (((strOfNums l)[k]'h').toNat : Int) = l.getD k 0 := by
  have hb := hB.get k
  have e : (strOfNums l)[k]'h' = UInt8.ofNat (l.getD k 0).toNat := by
    show (strOfNums l).data[k]'h' = _
    simp [strOfNums, List.getD_eq_getElem?_getD, h]
  rw [e]
  have : (UInt8.ofNat (l.getD k 0).toNat).toNat = (l.getD k 0).toNat := by rw [UInt8.toNat_ofNat']; omega
  rw [this]; omega
theorem str_inj {a b : List Int} (ha : IsBytes a) (hb : IsBytes b) (h : strOfNums a = strOfNums b) : a = b := by
  have hl : a.length = b.length := by rw [← strOfNums_size, ← strOfNums_size, h]
  refine List.ext_getElem hl fun i h1 h2 => ?_
  have e1 := str_at ha i h1 (by rw [strOfNums_size]; exact h1)
  have e2 := str_at hb i h2 (by rw [strOfNums_size]; exact h2)
  have e3 : ((strOfNums a)[i]'(by rw [strOfNums_size]; exact h1)).toNat = ((strOfNums b)[i]'(by rw [strOfNums_size]; exact h2)).toNat := by congr 1; congr 1
  rw [List.getD_eq_getElem?_getD, List.getElem?_eq_getElem h1] at e1
  rw [List.getD_eq_getElem?_getD, List.getElem?_eq_getElem h2] at e2
  simp only [Option.getD_some] at e1 e2
  rw [← e1, ← e2, e3]
theorem str_toList (l : List Int) : (strOfNums l).toList = (strOfNums l).data.toList := Lib.toList_data _
theorem str_eq_iff {a b : List Int} (ha : IsBytes a) (hb : IsBytes b) : ((strOfNums a).toList == (strOfNums b).toList) = decide (a = b) := by
  by_cases h : a = b
  · subst h; simp
  · have : ¬ (strOfNums a).toList = (strOfNums b).toList := fun e => h (str_inj ha hb (ByteArray.ext (by rw [str_toList, str_toList] at e; exact Array.toList_inj.1 e)))
    rw [decide_eq_false h]; simpa using this
theorem val_shift (f : Nat → Int) : ∀ n, val f (n + 1) = f 0 + 256 * val (fun k => f (k + 1)) n
  | 0 => by simp [val]
  | n + 1 => by
    show val f (n + 1) + f (n + 1) * 2 ^ (8 * (n + 1)) = _
    rw [val_shift f n]
    show _ = f 0 + 256 * (val (fun k => f (k + 1)) n + f (n + 1) * 2 ^ (8 * n))
    have e : (2 : Int) ^ (8 * (n + 1)) = 2 ^ (8 * n) * 256 := by rw [show 8 * (n + 1) = 8 * n + 8 by omega, Int.pow_add]; rfl
    rw [e]
    generalize (2 : Int) ^ (8 * n) = p
    grind
theorem or_low (v x : Int) (hv : 0 ≤ v ∧ v < 2 ^ 56) (hx : 0 ≤ x ∧ x ≤ 255) : bits .or .u64 (v * 256) x = v * 256 + x := by
  obtain ⟨V, rfl⟩ := Int.eq_ofNat_of_zero_le hv.1
  obtain ⟨X, rfl⟩ := Int.eq_ofNat_of_zero_le hx.1
  have e : (V : Int) * 256 = ((256 * V : Nat) : Int) := by omega
  have hX : X < 2 ^ 8 := by omega
  have h2 : 256 * V ||| X = 256 * V + X := (Nat.two_pow_add_eq_or_of_lt hX V).symm
  rw [e, u64_or_nat _ _ (by omega) (by omega), h2]
  omega
/-- What a reader has left: none behind a fault. -/
def num (n : Nat) (o : Option (List Int)) : Int := ((o.bind (rdn n)).map (·.1)).getD 0
def rest (n : Nat) (o : Option (List Int)) : Option (List Int) := (o.bind (rdn n)).map (·.2)
theorem num_some {n : Nat} {l m : List Int} {v : Int} (h : rdn n l = some (v, m)) : num n (some l) = v ∧ rest n (some l) = some m := by unfold num rest; rw [Option.bind_some, h]; exact ⟨rfl, rfl⟩
theorem num_none {n : Nat} {l : List Int} (h : rdn n l = none) : num n (some l) = 0 ∧ rest n (some l) = none := by unfold num rest; rw [Option.bind_some, h]; exact ⟨rfl, rfl⟩
theorem num_lt {n : Nat} {o : Option (List Int)} (hB : ∀ l, o = some l → IsBytes l) : 0 ≤ num n o ∧ num n o < 2 ^ (8 * n) := by
  have hp : (0 : Int) < 2 ^ (8 * n) := Int.pow_pos (by decide)
  match o with
  | none => exact ⟨Int.le_refl _, hp⟩
  | some l =>
    cases h : rdn n l with
    | none => rw [(num_none h).1]; exact ⟨Int.le_refl _, hp⟩
    | some q =>
      have h' : rdn n l = some (q.1, q.2) := h
      rw [(num_some h').1]
      obtain ⟨_, h1, h2, _⟩ := rdn_inv (hB l rfl) h'
      exact ⟨h1, h2⟩
theorem rest_bytes {n : Nat} {o : Option (List Int)} (hB : ∀ l, o = some l → IsBytes l) : ∀ l, rest n o = some l → IsBytes l := fun l h => by
  match o with
  | none => cases h
  | some m =>
    cases hr : rdn n m with
    | none => rw [(num_none hr).2] at h; cases h
    | some q =>
      have hr' : rdn n m = some (q.1, q.2) := hr
      rw [(num_some hr').2] at h
      injection h with h
      subst h
      exact (rdn_inv (hB m rfl) hr').2.2.2
end Sx
namespace Go.Proofs.Ytghomofakpjglaa
open Go.RowKit Go.Shelf
set_option linter.unusedVariables false
set_option linter.unusedSimpArgs false

/-- Everything stays but block B. -/
structure Sol (B : Nat) (w w' : World) : Prop where
  os : w'.os = w.os
  tape : w'.tape = w.tape
  output : w'.output = w.output
  size : w.heap.size ≤ w'.heap.size
  block : ∀ k, k < w.heap.size → k ≠ B → w'.heap[k]? = w.heap[k]?
section
variable {B b : Nat} {w w' w'' : World}
theorem Sol.refl (B : Nat) (w : World) : Sol B w w := ⟨rfl, rfl, rfl, Nat.le_refl _, fun _ _ _ => rfl⟩
theorem Sol.trans (h : Sol B w w') (k : Sol B w' w'') : Sol B w w'' := ⟨k.os.trans h.os, k.tape.trans h.tape, k.output.trans h.output, Nat.le_trans h.size k.size, fun i hi hne => (k.block i (Nat.lt_of_lt_of_le hi h.size) hne).trans (h.block i hi hne)⟩
theorem Sol.put (h : Sol B w w') (i : Nat) (u : Value) : Sol B w (w'.setCell ⟨B, i, none⟩ u) := by
  have hz := (Below.refl 0 w').setCell (p := ⟨B, i, none⟩) (Nat.zero_le _) u
  exact h.trans ⟨hz.os, hz.tape, hz.output, hz.size, fun k hk hne => heap_setCell_other w' ⟨B, i, none⟩ k u hne⟩
theorem Sol.call (h : Sol B w w') (hb : Below w'.heap.size w' w'') : Sol B w w'' := h.trans ⟨hb.os, hb.tape, hb.output, hb.size, fun k hk _ => hb.block k hk⟩
theorem Sol.fresh (h : Sol B w w') {p : Addr} (hp : w.heap.size ≤ p.block) (u : Value) : Sol B w (w'.setCell p u) := by
  have hz := (Below.refl 0 w').setCell (p := p) (Nat.zero_le _) u
  exact ⟨hz.os.trans h.os, hz.tape.trans h.tape, hz.output.trans h.output, Nat.le_trans h.size hz.size, fun k hk hne => (heap_setCell_other w' p k u (by omega)).trans (h.block k hk hne)⟩
theorem Sol.below (h : Sol B w w') (hb : b ≤ B) (hs : b ≤ w.heap.size) : Below b w w' := ⟨h.os, h.tape, h.output, h.size, fun i hi => h.block i (by omega) (by omega)⟩
theorem Box.sol {g : Nat} {t : TypeId} {cs : Array Value} (h : Box w g t cs) (k : Sol B w w') (hne : g ≠ B) : Box w' g t cs := ⟨(k.block g h.lt hne).trans h.is⟩
end
/-- The document's reader: what is left of its bytes, or that it is bad. -/
def RIs (w : World) (B : Nat) : Option (List Int) → Prop
  | none => ∃ s : ByteArray, Box w B 91 #[.string s, .bool true]
  | some l => Box w B 91 #[.string (strOfNums l), .bool false]
section
variable {B : Nat} {w w' : World} {o : Option (List Int)}
theorem RIs.box (h : RIs w B o) : ∃ s b, Box w B 91 #[.string s, .bool b] := by
  match o with
  | none => obtain ⟨s, h⟩ := h; exact ⟨s, _, h⟩
  | some l => exact ⟨_, _, h⟩
theorem RIs.lt (h : RIs w B o) : B < w.heap.size := by obtain ⟨s, b, h⟩ := h.box; exact h.lt
theorem RIs.stays (h : RIs w B o) (hk : w'.heap[B]? = w.heap[B]?) : RIs w' B o := by
  match o with
  | none => obtain ⟨s, h⟩ := h; exact ⟨s, ⟨hk.trans h.is⟩⟩
  | some l => exact (⟨hk.trans (show Box w B _ _ from h).is⟩ : Box w' B 91 #[.string (strOfNums l), .bool false])
theorem RIs.below {b : Nat} (h : RIs w B o) (hb : Below b w w') (hB : B < b) : RIs w' B o := h.stays (hb.block B hB)
theorem RIs.alloc (h : RIs w B o) (x : Obj) : RIs (w.alloc x) B o := h.below (one_below w x) h.lt
theorem RIs.apart {g : Nat} {t : TypeId} {cs : Array Value} (h : RIs w B o) (hg : Box w g t cs) (ht : t ≠ 91) : g ≠ B := by
  obtain ⟨s, b, h⟩ := h.box
  exact Box.apart hg h ht
theorem RIs.off {p : Addr} {t : TypeId} {cs : Array Value} (h : RIs w B o) (hg : Box w p.block t cs) (ht : t ≠ 91) (u : Value) : RIs (w.setCell p u) B o :=
  h.stays (heap_setCell_other w p B u (fun e => h.apart hg ht e.symm))
theorem RIs.bad (h : RIs w B o) : RIs (w.setCell ⟨B, 1, none⟩ (.bool true)) B none := by
  obtain ⟨s, b, h⟩ := h.box
  exact ⟨s, h.put 1 _⟩
end

theorem below_gone {B : Nat} {w0 w w' : World} {row : Option Nat} (h : Below B w0 w) (hg : w.grownBy w' row) (hr : ∀ r, row = some r → B ≤ r) (hB : B ≤ w0.heap.size) : Below B w0 w' :=
  ⟨hg.os.trans h.os, hg.tape.trans h.tape, hg.output.trans h.output, Nat.le_trans h.size hg.size, fun i hi => (hg.block i (Nat.lt_of_lt_of_le hi (Nat.le_trans hB h.size)) (fun e => by have := hr i e.symm; omega)).trans (h.block i hi)⟩
theorem own_at {w : World} {base : Nat} {e : TypeId} {size n : Nat} {v : Value} {xs : List Value} (h : w.ownsRow base e size v n xs) : ∀ r, v.ownBlock = some r → base ≤ r := fun r hr => by
  obtain ⟨_, ⟨rfl, _⟩ | ⟨g, cap, cur, rfl, hbg, _⟩⟩ := h
  · cases hr
  · have e' : g = r := by injection hr
    omega
set_option maxRecDepth 100000 in
set_option maxHeartbeats 4000000 in
theorem rnum_any (n : Nat) (z : Int) (hz : z = n) (o : Option (List Int)) (B : Nat) (w : World) (hn : 1 ≤ n ∧ n ≤ 8) (hB : ∀ l, o = some l → Im.IsBytes l) (h : RIs w B o) :
    Calls Try.prog 48 #[.pointer (some ⟨B, 0, none⟩), .int .i64 z] w fun e w' => e = .returned (.int .u64 (Sx.num n o)) ∧ RIs w' B (Sx.rest n o) ∧ Sol B w w' := by
  match o with
  | none =>
    obtain ⟨s, hs⟩ := h
    have c0 := hs.cell 0
    have c1 := hs.cell 1
    have f0 := hs.free 0
    have f1 := hs.free 1
    have HB := Lib.hid hs
    clear hs hB
    go_enter Try.func48, Try.ntmps48
    go_wp2
    go_ret
    exact ⟨rfl, ⟨_, (HB.out.put 1 (.bool true)).put 0 (.string ⟨#[]⟩)⟩, ((Sol.refl B w).put 1 _).put 0 _⟩
  | some l =>
    have hs : Box w B 91 #[.string (strOfNums l), .bool false] := h
    have c0 := hs.cell 0
    have c1 := hs.cell 1
    have f0 := hs.free 0
    have f1 := hs.free 1
    have HB := Lib.hid hs
    have hsz := strOfNums_size l
    clear h hs
    by_cases hlt : l.length < n
    · have hr := Im.rdn_few hlt
      obtain ⟨e1, e2⟩ := Sx.num_none hr
      rw [e1, e2]
      have hlz : (l.length : Int) < z := by omega
      generalize strOfNums l = s at *
      clear e1 e2 hr hB
      go_enter Try.func48, Try.ntmps48
      go_wp2
      go_ret
      exact ⟨rfl, ⟨_, (HB.out.put 1 (.bool true)).put 0 (.string ⟨#[]⟩)⟩, ((Sol.refl B w).put 1 _).put 0 _⟩
    · have hlz : ¬ (l.length : Int) < z := by omega
      have hr : Im.rdn n l = some (Im.val (fun k => l.getD k 0) n, l.drop n) := by unfold Im.rdn; rw [if_pos (by omega)]
      obtain ⟨e1, e2⟩ := Sx.num_some hr
      rw [e1, e2]
      have hby := hB l rfl
      have HX := Lib.hid (Sx.str_drop l n)
      have HAT := Lib.hid (fun k (hk : k < l.length) h' => Sx.str_at hby k hk h')
      have HGET := Lib.hid (fun k => hby.get k)
      generalize strOfNums l = s at *
      clear e1 e2 hr hB
      go_enter Try.func48, Try.ntmps48
      go_wp2
      go_loopw [5, 6] (fun v i wr => ∃ m : Nat, m ≤ n ∧ i = .int .i64 ((m : Int) - 1) ∧ v = .int .u64 (Im.val (fun k => l.getD (m + k) 0) (n - m)) ∧ w = wr) (fun _ i _ => (intOf i + 1).toNat)
      case atStart => exact ⟨n, by omega, by subst hz; rfl, by rw [Nat.sub_self]; rfl, rfl⟩
      case round =>
        obtain ⟨m, hm, rfl, rfl, rfl⟩ := hrel
        by_cases h0 : 0 < m
        · obtain ⟨q, rfl⟩ : ∃ q, m = q + 1 := ⟨m - 1, by omega⟩
          have hge : (0 : Int) ≤ ((q + 1 : Nat) : Int) - 1 := by omega
          have hvl := Im.val_lt (fun k => l.getD (q + 1 + k) 0) (fun k => HGET.out _) (n - (q + 1))
          have hp : (2 : Int) ^ (8 * (n - (q + 1))) ≤ 2 ^ 56 := by
            have := Nat.pow_le_pow_right (show 0 < 2 by decide) (show 8 * (n - (q + 1)) ≤ 56 by omega)
            exact_mod_cast this
          have hq8 : q < l.length := by omega
          have hx := HAT.out q hq8 (by omega)
          have hxb := HGET.out q
          have hnext : Im.val (fun k => l.getD (q + k) 0) (n - q) = Im.val (fun k => l.getD (q + 1 + k) 0) (n - (q + 1)) * 256 + l.getD q 0 := by
            rw [show n - q = (n - (q + 1)) + 1 by omega, Sx.val_shift]
            rw [show (fun k => l.getD (q + (k + 1)) 0) = fun k => l.getD (q + 1 + k) 0 from funext fun k => by rw [show q + (k + 1) = q + 1 + k by omega]]
            simp only [Nat.add_zero]
            omega
          have HN := Lib.hid hnext
          generalize Im.val (fun k => l.getD (q + 1 + k) 0) (n - (q + 1)) = v at *
          generalize l.getD q 0 = x at *
          have hq1 : ((q + 1 : Nat) : Int) - 1 = q := by omega
          have hor := Sx.or_low v x ⟨hvl.1, by omega⟩ hxb
          have hwv : IntKind.u64.wrap (v * 256) = v * 256 := by rw [IntKind.wrap_u64]; omega
          rw [hq1] at hge ⊢
          clear hnext hp hlz c1 f1
          go_wp2
          go_roundw
          case rel => exact ⟨q, by omega, rfl, by rw [HN.out], by first | rfl | trivial⟩
          case measure => simp [intOf] <;> omega
        · obtain rfl : m = 0 := by omega
          have hx2 : s.extract n l.length = strOfNums (l.drop n) := by rw [← hsz]; exact HX.out
          have hzn : z.toNat = n := by omega
          have hz0 : 0 ≤ z := by omega
          have hz1 : z ≤ (s.size : Int) := by omega
          clear HAT HGET
          go_wp2
          go_ret
          refine ⟨?_, HB.out.put 0 (.string (strOfNums (l.drop n))), (Sol.refl B w).put 0 _⟩
          show Ending.returned (.int .u64 (Im.val (fun k => l.getD (0 + k) 0) (n - 0))) = _
          rw [Nat.sub_zero, Im.val_congr (g := fun k => l.getD k 0) n (fun k _ => by rw [Nat.zero_add])]

set_option maxRecDepth 100000 in
theorem rint_any (n : Nat) (z : Int) (hz : z = n) (o : Option (List Int)) (B : Nat) (w : World) (hn : 1 ≤ n ∧ n ≤ 4) (hB : ∀ l, o = some l → Im.IsBytes l) (h : RIs w B o) :
    Calls Try.prog 47 #[.pointer (some ⟨B, 0, none⟩), .int .i64 z] w fun e w' => e = .returned (.int .i64 (Sx.num n o)) ∧ RIs w' B (Sx.rest n o) ∧ Sol B w w' := by
  subst hz
  have c1 := Lib.hid (rnum_any n n rfl o B w (by omega) hB h)
  have hl := Sx.num_lt (n := n) hB
  have hp : (2 : Int) ^ (8 * n) ≤ 2 ^ 32 := by
    have := Nat.pow_le_pow_right (show 0 < 2 by decide) (show 8 * n ≤ 32 by omega)
    exact_mod_cast this
  generalize Sx.num n o = v at *
  have hw : IntKind.i64.wrap v = v := by rw [IntKind.wrap_i64]; omega
  clear hB h hl hp
  go_enter Try.func47, Try.ntmps47
  go_wp2_with (go_at_call 48; ((with_reducible refine (c1.out).mono ?_); rintro e w1 ⟨rfl, h1, h2⟩; have H1 := Lib.hid h1; have H2 := Lib.hid h2; clear h1 h2))
  go_ret
  exact ⟨rfl, H1.out, H2.out⟩
def Sx.ended : Option (List Int) → Bool
  | some [] => true
  | _ => false
set_option maxRecDepth 100000 in
theorem rend_any (o : Option (List Int)) (B : Nat) (w : World) (hB : ∀ l, o = some l → Im.IsBytes l) (h : RIs w B o) :
    Calls Try.prog 50 #[.pointer (some ⟨B, 0, none⟩)] w fun e w' => e = .returned (.bool (Sx.ended o)) ∧ w = w' := by
  match o with
  | none =>
    obtain ⟨s, hs⟩ := h
    have c0 := hs.cell 0
    have c1 := hs.cell 1
    clear hs hB
    go_enter Try.func50, Try.ntmps50
    go_wp2
    go_ret
    exact ⟨rfl, rfl⟩
  | some l =>
    have hs : Box w B 91 #[.string (strOfNums l), .bool false] := h
    have c0 := hs.cell 0
    have c1 := hs.cell 1
    have he : ((strOfNums l).toList == (⟨#[]⟩ : ByteArray).toList) = Sx.ended (some l) := by
      rw [show (⟨#[]⟩ : ByteArray) = strOfNums [] from rfl, Sx.str_eq_iff (hB l rfl) Im.IsBytes.nil]
      cases l <;> rfl
    have he2 : (strOfNums l).toList.isEmpty = Sx.ended (some l) := by
      rw [← he]
      rw [show (⟨#[]⟩ : ByteArray).toList = [] from Lib.toList_data _]
      cases (strOfNums l).toList <;> rfl
    generalize Sx.ended (some l) = r at *
    generalize strOfNums l = s at *
    clear hs h hB
    go_enter Try.func50, Try.ntmps50
    go_wp2
    go_ret
    exact ⟨rfl, rfl⟩

set_option maxRecDepth 100000 in
set_option maxHeartbeats 4000000 in
theorem refput_num (size : Nat) (z v : Int) (hz : z = size) (w : World) (hs : size ≤ 8) (hv : 0 ≤ v ∧ v ≤ 18446744073709551615) :
    Calls Try.prog 43 #[.int .u64 v, .int .i64 z] w fun e w' => e = .returned (.string (strOfNums (Im.bytesOf size v))) ∧ Below w.heap.size w w' := by
  subst hz
  go_enter Try.func43, Try.ntmps43
  go_wp2
  go_loopw [5, 6] (fun l i wr => ∃ k : Nat, k ≤ size ∧ i = .int .i64 k ∧ wr.ownsRow w.heap.size 5 1 l k (Im.u8s (Im.bytesOf k v)) ∧ Below w.heap.size w wr) (fun _ i _ => size - (intOf i).toNat)
  case atStart => exact ⟨0, by omega, rfl, ⟨rfl, .inl ⟨rfl, rfl⟩⟩, Below.refl _ _⟩
  case round =>
    obtain ⟨k, hk, rfl, hO, hb⟩ := hrel
    obtain ⟨A, c, rfl⟩ := owned_slice hO
    by_cases hlt : k < size
    · have hk8 : (k : Int) < size := by omega
      have h8 : IntKind.i64.wrap (8 * (k : Int)) = 8 * k := by rw [IntKind.wrap_i64]; omega
      have h9 : IntKind.u64.wrap (8 * (k : Int)) = 8 * k := by rw [IntKind.wrap_u64]; omega
      have hsn : Im.u8s (Im.bytesOf (k + 1) v) = Im.u8s (Im.bytesOf k v) ++ Im.u8s [v / 2 ^ (8 * k) % 256] := by rw [← Im.u8s_append]; rfl
      have HSN := Lib.hid hsn
      have HO := Lib.hid hO
      have HB := Lib.hid hb
      have sz := hb.size
      obtain ⟨i0, hi0, hz0, hz1, hz2⟩ := u8_parts
      have hI := Lib.hid hi0
      have hZ := Lib.hid hz0
      have hS := Lib.hid hz1
      have hY := Lib.hid hz2
      clear hsn hO hb hi0 hz0 hz1 hz2
      go_wp2_with ((with_reducible refine append_gate (t := 36) (e := 5) (size := 1) (bytes := 1) rfl rfl Try.underlying36 hI.out hZ.out hS.out hY.out rfl (by decide) ?_); refine Appends.mk (base := w.heap.size) (n := k) (xs := Im.u8s (Im.bytesOf k v)) rfl (HO.out.alloc _) (lies_byte wr (v / 2 ^ (8 * k) % 256)) (Im.u8s_one _) (by unfold maxLen; omega) (by omega) (by simp; omega) ?_; intro A3 c3 w3 own3 hg3; have O3 := Lib.hid own3; have K3 := Lib.hid (below_gone (HB.out.alloc sz _) hg3 (own_at (HO.out)) (Nat.le_refl _)); clear own3 hg3)
      go_roundw
      case rel => exact ⟨k + 1, by omega, by go_num, by rw [HSN.out]; exact O3.out, K3.out⟩
      case measure => simp [intOf]; omega
    · have hk8 : ¬ (k : Int) < size := by omega
      obtain rfl : k = size := by omega
      have hcv := conv_bytes (Im.bytesOf k v) k A c wr _ (Im.bytesOf_len _ _) (Lies.owned hO)
      have HB := Lib.hid hb
      clear hO hb
      go_wp2
      go_ret
      exact ⟨rfl, HB.out⟩
end Go.Proofs.Ytghomofakpjglaa
