/-
Several texts in one: Lt Rf Sl Hh Eo Tu Tl Sq Mk Rg Rnd Rq.
-/
import Derived.Test.YtiahpncglpfjeaaGreatFq13
namespace Go.Proofs.YtiahpncglpfjeaaGreat
open Go Go.RowKit Go.Shelf
set_option linter.unusedVariables false
set_option linter.unusedSimpArgs false

/-- A row that lies in a block of its own type. -/
structure LT (w : World) (t : TypeId) (size : Nat) (A : Option Addr) (n : Nat) (xs : List Value) : Prop where
  lies : Lies w w.heap.size size A n xs
  typed : Typed w t A
section
variable {w w' : World} {t : TypeId} {size n : Nat} {A : Option Addr} {xs : List Value}
theorem LT.nil : LT w t size none 0 [] := ⟨⟨by simp, fun h => absurd rfl h, fun _ _ h => absurd rfl h⟩, Typed.none⟩
theorem LT.call (h : LT w t size A n xs) (hb : Below w.heap.size w w') : LT w' t size A n xs := ⟨h.lies.call hb, h.typed.call hb⟩
theorem LT.stays (h : LT w t size A n xs) (hs : w.heap.size ≤ w'.heap.size) (hk : ∀ ad, A = some ad → w'.heap[ad.block]? = w.heap[ad.block]?) : LT w' t size A n xs :=
  ⟨⟨h.lies.len, fun hn => by obtain ⟨ad, e, hb⟩ := h.lies.start hn; exact ⟨ad, e, Nat.lt_of_lt_of_le hb hs⟩, fun ad e hn j u hu => by
    rw [World.cell?_of_block (w := w) (by rw [add_block]; exact hk ad e)]
    exact h.lies.cell ad e hn j u hu⟩, ⟨fun ad e => by obtain ⟨cs, fz, h1⟩ := h.typed.is ad e; exact ⟨cs, fz, (hk ad e).trans h1⟩⟩⟩
theorem LT.row {B : Nat} {t' : TypeId} {old : Array Value} (h : LT w t size A n xs) (hB : Box w B t' old) (hne : t ≠ t') (cs : Array Value) : LT (w.setRow B cs) t size A n xs :=
  h.stays (by rw [setRow_size]; exact Nat.le_refl _) fun ad e => setRow_other w B _ cs fun eb => by
    obtain ⟨cs1, fz, h1⟩ := h.typed.is ad e
    rw [eb, hB.is] at h1
    injection h1 with h1
    injection h1 with _ ht _
    exact hne ht.symm
theorem LT.grown {base size' n' : Nat} {e : TypeId} {v : Value} {ys : List Value} (h : LT w t size A n xs) (ho : w.ownsRow base e size' v n' ys) (hne : t ≠ e) (hg : w.grownBy w' v.ownBlock) : LT w' t size A n xs :=
  h.stays hg.size fun ad ea => by
    obtain ⟨cs1, fz, h1⟩ := h.typed.is ad ea
    refine hg.block ad.block (Array.getElem?_eq_some_iff.1 h1).1 fun hr => ?_
    obtain ⟨_, ⟨rfl, _⟩ | ⟨g, cap, cur, rfl, _, hgg, _⟩⟩ := ho
    · cases hr
    · have e2 : ad.block = g := by injection hr
      rw [e2, hgg] at h1
      injection h1 with h1
      injection h1 with _ ht _
      exact hne ht.symm
theorem LT.boxed {S : Nat} (h : Box w S t xs.toArray) (hl : xs.length = n * size) : LT w t size (some ⟨S, 0, none⟩) n xs :=
  ⟨Lies.boxed4 h hl, ⟨fun ad e => by injection e with e; subst e; exact ⟨_, _, h.is⟩⟩⟩
end

section
variable {ops : Array Oper} {rest : List Oper} {o : Oper} {a : Act} {w : World} {Q : Exit → Act → World → Prop} {x : Operand}
def BuildEn1 (ops : Array Oper) (Q : Exit → Act → World → Prop) (rest : List Oper) (dst : Option Tmp) (v : Value) (a : Act) (w : World) : Prop :=
  ∃ q : En.S, v = .agg (En.cells q.e q.sl) ∧ wpList Tryz.prog ops Q rest (a.put dst (.slice (some ⟨w.heap.size, 0, none⟩) 1 1)) (w.alloc (.cells (En.sCells [q]).toArray 42))
theorem BuildEn1.mk {dst : Option Tmp} {v : Value} {q : En.S} (hv : v = .agg (En.cells q.e q.sl)) (h : wpList Tryz.prog ops Q rest (a.put dst (.slice (some ⟨w.heap.size, 0, none⟩) 1 1)) (w.alloc (.cells (En.sCells [q]).toArray 42))) : BuildEn1 ops Q rest dst v a w := ⟨q, hv, h⟩
theorem en_one_cells (q : En.S) : (En.sCells [q]).toArray = En.cells q.e q.sl := by
  unfold En.sCells
  rw [List.flatMap_cons, List.flatMap_nil, List.append_nil, En.S.cells_arr]
theorem en_fill1 (e : En.E) (A : Option Addr) (n c : Nat) : Instr.fill (fun i => some (i * 26, 26)) ((Array.range (1 * 26)).map ((Value.agg En.zeroC).cells[· % (Value.agg En.zeroC).cells.size]!)) [(0, .agg (En.cells e (.slice A n c)))] = some (En.cells e (.slice A n c)) := by kernel_rfl
theorem en_build1 (hgd : o.guard = none) (ho : o.op = .buildSlice 52 1 #[(0, x)]) (h : BuildEn1 ops Q rest o.dst (a.eval x) a w) : wpList Tryz.prog ops Q (o :: rest) a w := by
  obtain ⟨q, hv, h⟩ := h
  refine wpList_plain hgd fun _ hK => ?_
  have hr : (Instr.buildSlice 52 1 #[(0, .agg (En.cells q.e q.sl))]).run Tryz.prog w = .ok (.slice (some ⟨w.heap.size, 0, none⟩) 1 1) (w.alloc (.cells (En.sCells [q]).toArray 42)) := by
    have h1 := en_info
    have h2 := en_zero
    cases hq : Tryz.prog.info? 42 with
    | none => rw [hq] at h1; cases h1
    | some ie =>
      rw [hq] at h1 h2
      have hs : ie.size = 26 := by simpa using h1
      have hz : ie.zero = some (.agg En.zeroC) := by simpa using h2
      exact run_buildSlice w _ _ 1 _ _ ie (.agg En.zeroC) Tryz.underlying52 hq hz (by rw [hs]; decide) (by rw [hs]; decide) (by rw [hs, en_one_cells]; exact en_fill1 q.e q.adr q.e.evs.length q.cap)
  unfold Oper.wp execOp
  simp only [ho, List.map_toArray, List.map_cons, List.map_nil, hv, Sem.run_bind, hr, Result.andThen_ok, Sem.run_pure]
  exact hK _ _ h
end
theorem en_parts : ∃ i, Tryz.prog.info? 42 = some i ∧ i.zero = some (.agg En.zeroC) ∧ i.size = 26 ∧ i.bytes = 56 := by
  have h1 := en_info
  have h2 := en_zero
  have h3 : (Tryz.prog.info? 42).map (·.bytes) = some 56 := by kernel_rfl
  cases hq : Tryz.prog.info? 42 with
  | none => rw [hq] at h1; cases h1
  | some ie =>
    rw [hq] at h1 h2 h3
    exact ⟨ie, rfl, by simpa using h2, by simpa using h1, by simpa using h3⟩
theorem En.sCells_snoc (l : List En.S) (q : En.S) : En.sCells (l ++ [q]) = En.sCells l ++ En.sCells [q] := by unfold En.sCells; rw [List.flatMap_append]

/-- What lies there while a log is made: the state u behind the entries that are out. -/
structure Mk (w : World) (bs : Nat) (d : Int) (u : Fd.S) (A : Option Addr) (c : Nat) (AO : Option Addr) (cO : Nat) (out : List En.S) (W : World) : Prop where
  st : Box W bs 35 (Im.cells u.g (.slice A u.g.shots.length c) u.r)
  sh : LT W 90 6 A u.g.shots.length (Gm.shotCells u.g.shots)
  own : W.ownsRow w.heap.size 42 26 (.slice AO out.length cO) out.length (En.sCells out)
  ev : ∀ q ∈ out, LT W 61 4 q.adr q.e.evs.length (En.evCells q.e.evs)
  few : ∀ q ∈ out, q.e.evs.length ≤ maxLen
  ty : ∀ q ∈ out, ∀ i, i < 8 → Gm.tyIn (q.e.inp i)
  run : Fd.run (Fd.start d) (Fd.es out) = some u
  far : w.heap.size ≤ bs
  below : Below w.heap.size w W
section
variable {w W W' : World} {bs : Nat} {d : Int} {u v : Fd.S} {A A2 AO : Option Addr} {c c2 cO : Nat} {out : List En.S} {q : En.S}
theorem Mk.call (h : Mk w bs d u A c AO cO out W) (hb : Below W.heap.size W W') : Mk w bs d u A c AO cO out W' :=
  ⟨h.st.below hb h.st.lt, h.sh.call hb, own_below h.own hb (Nat.le_refl _), fun q hq => (h.ev q hq).call hb, h.few, h.ty, h.run, h.far, h.below.trans (hb.mono h.below.size)⟩
theorem Mk.lies (h : Mk w bs d u A c AO cO out W) : LiesS W W.heap.size AO out.length out := ⟨Lies.owned h.own, fun q hq => (h.ev q hq).lies, h.few⟩
/-- The entry of a round is done, and put behind the others. -/
theorem Mk.next (h : Mk w bs d u A c AO cO out W) (hv : Fd.apply u q.e = some v) (hL : LT W 90 6 A2 v.g.shots.length (Gm.shotCells v.g.shots)) (hE : LT W 61 4 q.adr q.e.evs.length (En.evCells q.e.evs)) (hf : q.e.evs.length ≤ maxLen) (ht : ∀ i, i < 8 → Gm.tyIn (q.e.inp i)) :
    ((W.setRow bs (Im.cells v.g (.slice A2 v.g.shots.length c2) v.r)).alloc (.cells (En.sCells [q]).toArray 42)).ownsRow w.heap.size 42 26 (.slice AO out.length cO) out.length (En.sCells out) ∧
    ∀ A' c' w', w'.ownsRow w.heap.size 42 26 (.slice A' (out.length + 1) c') (out.length + 1) (En.sCells out ++ En.sCells [q]) → ((W.setRow bs (Im.cells v.g (.slice A2 v.g.shots.length c2) v.r)).alloc (.cells (En.sCells [q]).toArray 42)).grownBy w' (Value.slice AO out.length cO).ownBlock →
      Mk w bs d v A2 c2 A' c' (out ++ [q]) w' := by
  obtain ⟨W1, hW1⟩ : ∃ W1, W1 = W.setRow bs (Im.cells v.g (.slice A2 v.g.shots.length c2) v.r) := ⟨_, rfl⟩
  rw [← hW1]
  have hB := h.st
  have b1 : Box W1 bs 35 (Im.cells v.g (.slice A2 v.g.shots.length c2) v.r) := by rw [hW1]; exact hB.row _
  have s1 : LT W1 90 6 A2 v.g.shots.length (Gm.shotCells v.g.shots) := by rw [hW1]; exact hL.row hB (by decide) _
  have e1 : ∀ q' ∈ out ++ [q], LT W1 61 4 q'.adr q'.e.evs.length (En.evCells q'.e.evs) := fun q' hq' => by
    rw [hW1]
    rcases List.mem_append.1 hq' with hq1 | hq1
    · exact (h.ev q' hq1).row hB (by decide) _
    · obtain rfl : q' = q := by simpa using hq1
      exact hE.row hB (by decide) _
  have o1 : W1.ownsRow w.heap.size 42 26 (.slice AO out.length cO) out.length (En.sCells out) := by
    rw [hW1]
    exact own_setRow h.own (hB.unowned h.own (by decide)) _
  have k1 : Below w.heap.size w W1 := by rw [hW1]; exact Below.setRow' h.below h.far _
  obtain ⟨X, hX⟩ : ∃ X, X = W1.alloc (.cells (En.sCells [q]).toArray 42) := ⟨_, rfl⟩
  rw [← hX]
  have hb : Below W1.heap.size W1 X := by rw [hX]; exact one_below _ _
  have o2 := own_below o1 hb (Nat.le_refl _)
  have b2 := b1.below hb b1.lt
  have k2 := k1.trans (hb.mono k1.size)
  refine ⟨o2, fun A' c' w' ho hg => ?_⟩
  have hlen : (out ++ [q]).length = out.length + 1 := by simp
  refine ⟨b2.grown hg (b2.unowned o2 (by decide)), (s1.call hb).grown o2 (by decide) hg, ?_, fun q' hq' => ((e1 q' hq').call hb).grown o2 (by decide) hg, fun q' hq' => ?_, fun q' hq' => ?_, ?_, h.far, ?_⟩
  · rw [hlen, En.sCells_snoc]; exact ho
  · rcases List.mem_append.1 hq' with hq1 | hq1
    · exact h.few q' hq1
    · obtain rfl : q' = q := by simpa using hq1
      exact hf
  · rcases List.mem_append.1 hq' with hq1 | hq1
    · exact h.ty q' hq1
    · obtain rfl : q' = q := by simpa using hq1
      exact ht
  · show Fd.run (Fd.start d) (Fd.es (out ++ [q])) = some v
    unfold Fd.es
    rw [List.map_append, List.map_cons, List.map_nil, Fd.run_append]
    have := h.run
    unfold Fd.es at this
    rw [this, Option.bind_some, Fd.run_one]
    exact hv
  · refine k2.grown hg k2.size fun k hk => ?_
    obtain ⟨_, ⟨e, _⟩ | ⟨g, cap, cur, e, hbg, _⟩⟩ := o2
    · rw [e] at hk; cases hk
    · rw [e] at hk
      injection hk with hk
      have : g = k := hk
      omega
end
end Go.Proofs.YtiahpncglpfjeaaGreat
namespace Go.Proofs.YtiahpncglpfjeaaGreat
open Go Go.RowKit Go.Shelf
set_option linter.unusedVariables false
set_option linter.unusedSimpArgs false

namespace Fd
/-- The best slot among the first k. -/
def freeK (r : Ros.R) : Nat → Int
  | 0 => -1
  | k + 1 => if r.peer k < 0 ∧ (freeK r k < 0 ∨ r.gen k < r.gen (freeK r k).toNat) then k else freeK r k
def freeV (r : Ros.R) : Int := if 0 ≤ freeK r 8 ∧ r.gen (freeK r 8).toNat = 60000 then -1 else freeK r 8
theorem freeK_is (r : Ros.R) (k : Nat) : freeK r k = -1 ∨ ∃ q : Nat, q < k ∧ freeK r k = q := by
  induction k with
  | zero => exact .inl rfl
  | succ k ih =>
    unfold freeK
    split
    · exact .inr ⟨k, Nat.lt_succ_self k, rfl⟩
    · rcases ih with h | ⟨q, hq, h⟩
      · exact .inl h
      · exact .inr ⟨q, by omega, h⟩
theorem freeV_is (r : Ros.R) : freeV r = -1 ∨ ∃ k : Nat, k < 8 ∧ freeV r = k ∧ r.gen k ≠ 60000 := by
  unfold freeV
  split
  · exact .inl rfl
  · rename_i h
    rcases freeK_is r 8 with h1 | ⟨q, hq, h1⟩
    · exact .inl h1
    · refine .inr ⟨q, hq, h1, fun hg => h ?_⟩
      rw [h1]
      exact ⟨by omega, hg⟩
theorem freeK_yes {r : Ros.R} {k : Nat} {v : Int} (hv : v = freeK r k) (hp : r.peer k < 0) (hg : v < 0 ∨ r.gen k < r.gen v.toNat) : (k : Int) = freeK r (k + 1) := by
  subst hv
  rw [freeK, if_pos ⟨hp, hg⟩]
theorem freeK_no {r : Ros.R} {k : Nat} {v : Int} (hv : v = freeK r k) (h : ¬ (r.peer k < 0 ∧ (v < 0 ∨ r.gen k < r.gen v.toNat))) : v = freeK r (k + 1) := by
  subst hv
  rw [freeK, if_neg h]
end Fd
set_option maxRecDepth 100000 in
set_option maxHeartbeats 4000000 in
theorem reffree_is (r : Ros.R) (w : World) (hok : Ros.Ok r) :
    Calls Tryz.prog 40 #[.agg (Ros.cells r)] w fun e w' => e = .returned (.int .i64 (Fd.freeV r)) ∧ Below w.heap.size w w' := by
  have P0 := Lib.hid (Box.made w 33 (Ros.cells r))
  have K0 := Lib.hid (one_below w (.cells (Ros.cells r) 33))
  have cm := fun X => Lib.hid (refros_may r X)
  have HOK := Lib.hid hok
  clear hok
  go_enter Tryz.func40, Tryz.ntmps40
  go_wp2
  go_loopw [3, 4] (fun b i wr => ∃ (k : Nat) (v : Int), k ≤ 8 ∧ i = .int .i64 k ∧ b = .int .i64 v ∧ v = Fd.freeK r k ∧ Box wr w.heap.size 33 (Ros.cells r) ∧ Below w.heap.size w wr) (fun _ i _ => 8 - (intOf i).toNat)
  case atStart => exact ⟨0, -1, by omega, rfl, rfl, rfl, P0.out, K0.out⟩
  case round =>
    obtain ⟨k, v, hk, rfl, rfl, hv, hB, hb⟩ := hrel
    clear P0 K0
    have HB := Lib.hid hB
    have HBB := Lib.hid hb
    clear hB hb
    have HV := Lib.hid hv
    have hvi : v = -1 ∨ ∃ q : Nat, q < 8 ∧ v = q := by
      rcases Fd.freeK_is r k with h | ⟨q, hq, h⟩
      · exact .inl (hv.trans h)
      · exact .inr ⟨q, by omega, hv.trans h⟩
    clear hv
    by_cases hlt : k < 8
    · have hk8 : (k : Int) < 8 := by omega
      rcases hvi with rfl | ⟨q, hq, rfl⟩
      · skip
        go_upto_region 5 with (first | ((with_reducible refine ros_load_g ?_ rfl ?_); (focus first | rfl | kernel_rfl | simp [Region.wanted, yielded]); apply LoadRow.mk rfl; (focus (with_reducible exact HB.out)); (focus (exact ros_info))) | (go_at_call 37; ((with_reducible refine ((cm _).out).mono ?_); rintro e w1 ⟨⟨v1, rfl, hv⟩, hb⟩; obtain rfl : v1 = true := hv.2 HOK.out; have B1 := Lib.hid (HB.out.below hb HB.out.lt); have K1 := Lib.hid (HBB.out.trans (hb.mono HBB.out.size)); clear hb hv)))
        have c1 := (B1.out.cell (1 + k * 2)).trans (Ros.cells_peer r k hlt)
        have g1 := (B1.out.cell (1 + k * 2 + 1)).trans (Ros.cells_gen r k hlt)
        obtain ⟨pk, hpk⟩ : ∃ pk, pk = r.peer k := ⟨_, rfl⟩
        rw [← hpk] at c1
        have HP := Lib.hid hpk.symm
        clear hpk
        have B3 := fun m => Lib.hid (B1.out.draws m)
        have K3 := fun m => Lib.hid (draws_below K1.out m)
        by_cases hp : pk < 0
        · go_quiet (fail)
          go_wp2
          go_roundw
          case rel => exact ⟨k + 1, (k : Int), by omega, by go_num, rfl, Fd.freeK_yes HV.out (by rw [HP.out]; exact hp) (.inl (by omega)), (B3 _).out, (K3 _).out⟩
          case measure => simp [intOf]; omega
        · go_quiet (fail)
          go_wp2
          go_roundw
          case rel => exact ⟨k + 1, -1, by omega, by go_num, rfl, Fd.freeK_no HV.out (fun h => hp (HP.out ▸ h.1)), (B3 _).out, (K3 _).out⟩
          case measure => simp [intOf]; omega
      · skip
        go_upto_region 5 with (first | ((with_reducible refine ros_load_g ?_ rfl ?_); (focus first | rfl | kernel_rfl | simp [Region.wanted, yielded]); apply LoadRow.mk rfl; (focus (with_reducible exact HB.out)); (focus (exact ros_info))) | (go_at_call 37; ((with_reducible refine ((cm _).out).mono ?_); rintro e w1 ⟨⟨v1, rfl, hv⟩, hb⟩; obtain rfl : v1 = true := hv.2 HOK.out; have B1 := Lib.hid (HB.out.below hb HB.out.lt); have K1 := Lib.hid (HBB.out.trans (hb.mono HBB.out.size)); clear hb hv)))
        have c1 := (B1.out.cell (1 + k * 2)).trans (Ros.cells_peer r k hlt)
        have g1 := (B1.out.cell (1 + k * 2 + 1)).trans (Ros.cells_gen r k hlt)
        have hq8 : (q : Int) < 8 := by omega
        have g2 := (B1.out.cell (1 + q * 2 + 1)).trans (Ros.cells_gen r q hq)
        obtain ⟨pk, hpk⟩ : ∃ pk, pk = r.peer k := ⟨_, rfl⟩
        obtain ⟨gk, hgk⟩ : ∃ gk, gk = r.gen k := ⟨_, rfl⟩
        obtain ⟨gq, hgq⟩ : ∃ gq, gq = r.gen q := ⟨_, rfl⟩
        rw [← hpk] at c1
        rw [← hgk] at g1
        rw [← hgq] at g2
        have HP := Lib.hid hpk.symm
        have HK := Lib.hid hgk.symm
        have HQ := Lib.hid hgq.symm
        clear hpk hgk hgq
        have B3 := fun m => Lib.hid (B1.out.draws m)
        have K3 := fun m => Lib.hid (draws_below K1.out m)
        by_cases hp : pk < 0
        · by_cases hg : gk < gq
          · go_quiet (fail)
            go_wp2
            go_roundw
            case rel => exact ⟨k + 1, (k : Int), by omega, by go_num, rfl, Fd.freeK_yes HV.out (by rw [HP.out]; exact hp) (.inr (by rw [HK.out, Int.toNat_natCast, HQ.out]; exact hg)), (B3 _).out, (K3 _).out⟩
            case measure => simp [intOf]; omega
          · go_quiet (fail)
            go_wp2
            go_roundw
            case rel => exact ⟨k + 1, (q : Int), by omega, by go_num, rfl, Fd.freeK_no HV.out (fun h => hg (by have h2 := h.2.resolve_left (by omega); rw [HK.out, Int.toNat_natCast, HQ.out] at h2; exact h2)), (B3 _).out, (K3 _).out⟩
            case measure => simp [intOf]; omega
        · go_quiet (fail)
          go_wp2
          go_roundw
          case rel => exact ⟨k + 1, (q : Int), by omega, by go_num, rfl, Fd.freeK_no HV.out (fun h => hp (HP.out ▸ h.1)), (B3 _).out, (K3 _).out⟩
          case measure => simp [intOf]; omega
    · have hk8 : ¬ (k : Int) < 8 := by omega
      obtain rfl : k = 8 := by omega
      rcases hvi with rfl | ⟨q, hq, rfl⟩
      · go_wp2
        go_ret
        exact ⟨by unfold Fd.freeV; rw [← HV.out, if_neg (by omega)] <;> rfl, HBB.out⟩
      · have hq8 : (q : Int) < 8 := by omega
        have g2 := (HB.out.cell (1 + q * 2 + 1)).trans (Ros.cells_gen r q hq)
        obtain ⟨gq, hgq⟩ : ∃ gq, gq = r.gen q := ⟨_, rfl⟩
        rw [← hgq] at g2
        by_cases hg : gq = 60000
        · have hg' : (gq == 60000) = true := by simpa using hg
          have HGQ := Lib.hid (show r.gen q = 60000 from hgq ▸ hg)
          clear hgq
          go_wp2
          go_ret
          exact ⟨by unfold Fd.freeV; rw [← HV.out, if_pos ⟨by omega, by rw [Int.toNat_natCast]; exact HGQ.out⟩] <;> rfl, HBB.out⟩
        · have hg' : (gq == 60000) = false := by simpa using hg
          have HGQ := Lib.hid (show r.gen q ≠ 60000 from hgq ▸ hg)
          clear hgq
          go_wp2
          go_ret
          exact ⟨by unfold Fd.freeV; rw [← HV.out, if_neg (fun h => HGQ.out (by have h2 := h.2; rw [Int.toNat_natCast] at h2; exact h2))] <;> rfl, HBB.out⟩
end Go.Proofs.YtiahpncglpfjeaaGreat
namespace Go.Proofs.YtiahpncglpfjeaaGreat
open Go.RowKit Go.Shelf
set_option linter.unusedVariables false
set_option linter.unusedSimpArgs false


section
variable {ops : Array Oper} {rest : List Oper} {o : Oper} {a : Act} {w : World} {Q : Exit → Act → World → Prop} {x y : Operand} {dst : Option Tmp} {p v : Value}
/-- What the store of an entry's input wants. -/
def StoreIn (ops : Array Oper) (Q : Exit → Act → World → Prop) (rest : List Oper) (dst : Option Tmp) (p v : Value) (a : Act) (w : World) : Prop :=
  ∃ (B i : Nat) (e : En.E) (s : Value) (u : Gm.In), p = .pointer (some ⟨B, 2 + i * 3, none⟩) ∧ v = .agg #[.int .i8 u.x, .int .i8 u.y, .int .u8 u.b] ∧ i < 8 ∧ Box w B 42 (En.cells e s) ∧ wpList Tryz.prog ops Q rest (a.put dst undef) (w.setRow B (En.cells { e with inp := En.upd e.inp i u } s))
theorem StoreIn.mk {B i : Nat} {e : En.E} {s : Value} {u : Gm.In} (hp : p = .pointer (some ⟨B, 2 + i * 3, none⟩)) (hv : v = .agg #[.int .i8 u.x, .int .i8 u.y, .int .u8 u.b]) (hi : i < 8) (hB : Box w B 42 (En.cells e s)) (h : wpList Tryz.prog ops Q rest (a.put dst undef) (w.setRow B (En.cells { e with inp := En.upd e.inp i u } s))) : StoreIn ops Q rest dst p v a w := ⟨B, i, e, s, u, hp, hv, hi, hB, h⟩
theorem en_splice (e : En.E) (s : Value) (i : Nat) (hi : i < 8) (u : Gm.In) : splice (En.cells e s) (2 + i * 3) [.int .i8 u.x, .int .i8 u.y, .int .u8 u.b] = En.cells { e with inp := En.upd e.inp i u } s := by
  match i, hi with
  | 0, _ | 1, _ | 2, _ | 3, _ | 4, _ | 5, _ | 6, _ | 7, _ => rfl
theorem en_store_in (hgd : o.guard = none) (ho : o.op = .store 39 x y) (h : StoreIn ops Q rest o.dst (a.eval x) (a.eval y) a w) : wpList Tryz.prog ops Q (o :: rest) a w := by
  obtain ⟨B, i, e, s, u, hx, hy, hi, hB, h⟩ := h
  refine wpList_store_mid hgd 39 x y ho B (2 + i * 3) #[.int .i8 u.x, .int .i8 u.y, .int .u8 u.b] hx hy (hB.there _ _ (by rw [En.cells_size]; show 2 + i * 3 + 3 ≤ 26; omega)) in_info (by simp [Value.oneCell']) ?_
  rw [setCells_row B 42 _ (2 + i * 3) (En.cells e s) w hB.is (by rw [En.cells_size]; show 2 + i * 3 + 3 ≤ 26; omega), en_splice e s i hi u]
  exact h
end

end Go.Proofs.YtiahpncglpfjeaaGreat
namespace Go.Proofs.YtiahpncglpfjeaaGreat
open Go.ChangeShapes Go.WideShapes Go.ChangeAt Go.RowKit Go.Joins Go.ChangeMaps Go.Deep
set_option linter.unusedVariables false

section
variable {H : Type} {enc : TypeId × Value → H} {w : World} {base : Nat} {spare : Nat → Bool} {held : Bool}
theorem trod_in {fuel : Nat} {a b c : Value} {y : DataW H × List MemPlace} (h : DataW.trod enc Tryz.prog w base spare held fuel 39 [a, b, c] = some y) : ∃ q : Gm.In, [a, b, c] = q.cells ∧ Gm.tyIn q ∧ y.2 = [] := by
  obtain ⟨y0, y1, y2, n, hx, _, h0, h1, h2⟩ := trod_struct3 Tryz.underlying39 h
  obtain ⟨x0, e0, rfl, w0⟩ := DataW.trod_int Tryz.underlying37 h0
  obtain ⟨x1, e1, rfl, w1⟩ := DataW.trod_int Tryz.underlying37 h1
  obtain ⟨x2, e2, rfl, w2⟩ := DataW.trod_int Tryz.underlying5 h2
  have c8 : Tryz.prog.cellsOf 37 = 1 := by kernel_rfl
  have cu : Tryz.prog.cellsOf 5 = 1 := by kernel_rfl
  simp [c8, cu] at e0 e1 e2
  subst e0 e1 e2
  exact ⟨⟨x0, x1, x2⟩, rfl, ⟨Bd.i8 w0, Bd.i8 w1, Bd.u8 w2⟩, by rw [hx]; rfl⟩
theorem cut24 {α : Type} (l : List α) (h : l.length = 24) : l = (l.drop (0 * 3)).take 3 ++ ((l.drop (1 * 3)).take 3 ++ ((l.drop (2 * 3)).take 3 ++ ((l.drop (3 * 3)).take 3 ++ ((l.drop (4 * 3)).take 3 ++ ((l.drop (5 * 3)).take 3 ++ ((l.drop (6 * 3)).take 3 ++ ((l.drop (7 * 3)).take 3))))))) := by
  match l, h with
  | [a0, a1, a2, a3, a4, a5, a6, a7, a8, a9, a10, a11, a12, a13, a14, a15, a16, a17, a18, a19, a20, a21, a22, a23], _ => rfl
end
end Go.Proofs.YtiahpncglpfjeaaGreat
namespace Go.Proofs.YtiahpncglpfjeaaGreat
open Go.ChangeShapes Go.WideShapes Go.ChangeAt Go.RowKit Go.Joins Go.ChangeMaps Go.Deep
set_option linter.unusedVariables false

theorem cut_at9 {α : Type} (l : List α) (a b : Nat) : l.drop a = (l.drop a).take b ++ l.drop (a + b) := by
  have := (List.take_append_drop b (l.drop a)).symm
  rwa [List.drop_drop] at this
theorem cut_end9 {α : Type} (l : List α) (a b : Nat) (h : l.length = a + b) : l.drop a = (l.drop a).take b := by
  rw [List.take_of_length_le (by simp; omega)]
section
variable {H : Type} {enc : TypeId × Value → H} {w : World} {base : Nat} {spare : Nat → Bool} {held : Bool}
set_option maxRecDepth 100000 in
theorem trod_ins {base : Nat} {spare : Nat → Bool} {held : Bool} {fuel : Nat} {l : List Value} {y : DataW H × List MemPlace} (hl : l.length = 24) (h : DataW.trod enc Tryz.prog w base spare held fuel 40 l = some y) :
    ∃ f : Nat → Gm.In, l = Gm.insCells f ∧ ∀ k, k < 8 → Gm.tyIn (f k) := by
  obtain ⟨xs, m, _, hx, _, hn, he⟩ := DataW.trod_array Tryz.underlying40 h
  have c3 : Tryz.prog.cellsOf 39 = 3 := by kernel_rfl
  simp only [c3] at he
  have key : ∀ i, i < 8 → ∃ q : Gm.In, (l.drop (i * 3)).take 3 = q.cells ∧ Gm.tyIn q := by
    intro i hi
    have hlen : ((l.drop (i * 3)).take 3).length = 3 := by simp; omega
    obtain ⟨y, hy⟩ : ∃ y, xs[i]? = some y := ⟨xs[i]'(by omega), List.getElem?_eq_getElem (by omega)⟩
    have h : DataW.trod enc Tryz.prog w base spare held m 39 ((l.drop (i * 3)).take 3) = xs[i]? := he i hi
    rw [hy] at h
    match hq : (l.drop (i * 3)).take 3, hlen with
    | [a, b, c], _ =>
      rw [hq] at h
      obtain ⟨q, h1, h2, _⟩ := trod_in h
      exact ⟨q, h1, h2⟩
  have hch : ∃ ps : Nat → Gm.In, ∀ i, i < 8 → ((l.drop (i * 3)).take 3 = (ps i).cells ∧ Gm.tyIn (ps i)) :=
    ⟨fun i => if h : i < 8 then (key i h).choose else ⟨0, 0, 0⟩, fun i hi => by dsimp only; rw [dif_pos hi]; exact (key i hi).choose_spec⟩
  obtain ⟨ps, hps⟩ := hch
  refine ⟨ps, ?_, fun i hi => (hps i hi).2⟩
  rw [cut24 l hl]
  unfold Gm.insCells
  rw [(hps 0 (by decide)).1, (hps 1 (by decide)).1, (hps 2 (by decide)).1, (hps 3 (by decide)).1, (hps 4 (by decide)).1, (hps 5 (by decide)).1, (hps 6 (by decide)).1, (hps 7 (by decide)).1]
end
end Go.Proofs.YtiahpncglpfjeaaGreat
namespace Fd
open Go
/-- A turn: who comes or goes, what all do. -/
structure Turn where
  peer : Int
  inp : Nat → Gm.In
def Turn.cells (q : Turn) : List Value := [Value.int .i64 q.peer] ++ Gm.insCells q.inp
theorem Turn.cells_len (q : Turn) : q.cells.length = 25 := rfl
def Turn.ty (q : Turn) : Prop := (-9223372036854775808 ≤ q.peer ∧ q.peer ≤ 9223372036854775807) ∧ ∀ i, i < 8 → Gm.tyIn (q.inp i)
end Fd
namespace Go.Proofs.YtiahpncglpfjeaaGreat
open Go.ChangeShapes Go.WideShapes Go.ChangeAt Go.RowKit Go.Joins Go.ChangeMaps Go.Deep
set_option linter.unusedVariables false
section
variable {H : Type} {enc : TypeId × Value → H} {w : World} {base : Nat} {spare : Nat → Bool} {held : Bool}
set_option maxRecDepth 100000 in
theorem trod_turn {base : Nat} {spare : Nat → Bool} {held : Bool} {fuel : Nat} {l : List Value} {y : DataW H × List MemPlace} (hl : l.length = 25) (h : DataW.trod enc Tryz.prog w base spare held fuel 78 l = some y) : ∃ q : Fd.Turn, l = q.cells ∧ q.ty := by
  obtain ⟨xs, n, _, _, _, hlen, hf⟩ := DataW.trod_struct Tryz.underlying78 h
  have ci : Tryz.prog.cellsOf 3 = 1 := by kernel_rfl
  have c24 : Tryz.prog.cellsOf 40 = 24 := by kernel_rfl
  match xs, hlen with
  | [y0, y1], _ =>
    obtain ⟨x0, e0, _, w0⟩ := DataW.trod_int Tryz.underlying3 (hf 0 _ rfl)
    have h1 := hf 1 _ rfl
    simp [ci, c24] at e0 h1
    obtain ⟨f, e1, hty⟩ := trod_ins (by simp; omega) h1
    refine ⟨⟨x0, f⟩, ?_, Bd.i64 w0, hty⟩
    have e0' : (l.drop 0).take 1 = [Value.int .i64 x0] := by rw [← e0]; simp
    have q1 : l.drop 1 = Gm.insCells f := by rw [← e1, ← List.drop_one]; exact cut_end9 l 1 24 (by omega)
    have q0 : l.drop 0 = [Value.int .i64 x0] ++ Gm.insCells f := by rw [← q1, ← e0']; exact cut_at9 l 0 1
    exact q0
set_option maxRecDepth 100000 in
theorem open_turns {b0 : Nat} {v : Value} {d : DataW H} {p : List MemPlace} (hv : Value.okWide Tryz.prog w .any b0 51 v) (h : DataW.Trod enc Tryz.prog w base spare held 51 v d p) :
    ∃ (A : Option Addr) (c : Nat) (l : List Fd.Turn), v = .slice A l.length c ∧ (∀ q ∈ l, q.ty) ∧ l.length ≤ maxLen ∧ Lies w w.heap.size 25 A l.length (l.flatMap Fd.Turn.cells) := by
  have hag : ∀ cs, v ≠ .agg cs := fun cs e => by subst e; simp [Value.okWide, Tryz.underlying51, Cell.okWide, Cell.ok] at hv
  exact open_slice (enc := enc) (w := w) (base := base) (spare := spare) (held := held) Fd.Turn.cells 25 Fd.Turn.ty ⟨0, fun _ => ⟨0, 0, 0⟩⟩ Tryz.underlying51 (by kernel_rfl) (by decide) (fun _ => rfl) (fun hl ht => trod_turn hl ht) hag h
end
end Go.Proofs.YtiahpncglpfjeaaGreat
namespace Go.Proofs.YtiahpncglpfjeaaGreat
open Go.RowKit
set_option linter.unusedVariables false

section
variable {t : TypeId} {cs : Array Value} {code : Int} {b k : Nat} {vm vm' : Nat → Value} {w w' : World}
end
theorem exec_alloc_z {P : Program} {o : Oper} {a : Act} {w : World} {t : TypeId} {z : Value} {cs : Array Value} (ho : o.op = .alloc t) (hz : (P.info? t).map (·.zero) = some (some z)) (hc : z.cells = cs) :
    (execOp a.eval o).run P w = .ok (.value (.pointer (some ⟨w.heap.size, 0, none⟩))) (w.alloc (.cells cs t)) := by
  have hz' : (zeroValue t).run P w = .ok z w := by
    cases hq : P.info? t with
    | none => simp [hq] at hz
    | some i => simp [hq] at hz; simp [zeroValue, typeInfo, hq, hz]
  subst hc
  unfold execOp
  simp only [ho, Instr.alloc, Sem.run_bind, hz', Result.andThen_ok]
  rfl
theorem exec_store_blk {P : Program} {o : Oper} {a : Act} {w : World} {x y : Operand} {B : Nat} {t : TypeId} {cs old : Array Value} (ho : o.op = .store t x y) (hx : a.eval x = .pointer (some ⟨B, 0, none⟩)) (hy : a.eval y = .agg cs) (hB : Box w B t old) (hi : (P.info? t).map (·.size) = some cs.size) (hs : old.size = cs.size) (h1 : cs.all (·.oneCell') = true) :
    (execOp a.eval o).run P w = .ok .skip (w.setRow B cs) := by
  have hs := run_storeVar_row (P := P) w B t t old cs hB.is hi hs h1
  unfold execOp
  simp only [ho, hx, hy, Instr.storeAt, Instr.sureAddr, Sem.run_bind, Sem.run_pure, Result.andThen_ok, hs]
theorem exec_load_ros {o : Oper} {a : Act} {w : World} {x : Operand} {B : Nat} {r : Ros.R} (ho : o.op = .load 33 x) (hx : a.eval x = .pointer (some ⟨B, 0, none⟩)) (hB : Box w B 33 (Ros.cells r)) :
    (execOp a.eval o).run Tryz.prog w = .ok (.value (.agg (Ros.cells r))) w := exec_load_blk ho hx hB Tryz.underlying33 rfl ros_info
end Go.Proofs.YtiahpncglpfjeaaGreat
namespace Go.Proofs.YtiahpncglpfjeaaGreat
open Go Go.RowKit
set_option linter.unusedVariables false

theorem exec_load_state {o : Oper} {a : Act} {w : World} {x : Operand} {B : Nat} {g : Gm.G} {s : Value} {r : Ros.R} (ho : o.op = .load 35 x) (hx : a.eval x = .pointer (some ⟨B, 0, none⟩)) (hB : Box w B 35 (Im.cells g s r)) :
    (execOp a.eval o).run Tryz.prog w = .ok (.value (.agg (Im.cells g s r))) w := exec_load_blk ho hx hB Tryz.underlying35 rfl (by rw [Im.cells_size]; exact state_info)
theorem exec_load_entry {o : Oper} {a : Act} {w : World} {x : Operand} {ad : Addr} (q : En.S) (ho : o.op = .load 42 x) (hx : a.eval x = .pointer (some ad)) (hc : ∀ j v, q.cells[j]? = some v → w.cell? (ad.add j) = some v) :
    (execOp a.eval o).run Tryz.prog w = .ok (.value (.agg (En.cells q.e q.sl))) w := by
  rw [← En.S.cells_arr]
  exact exec_load_any ho hx hc Tryz.underlying42 rfl (by rw [En.S.cells_len]; exact en_info26)
theorem state_one {g : Gm.G} {s : Value} {r : Ros.R} (h : s.oneCell' = true) : (Im.cells g s r).all (·.oneCell') = true := im_cells_one _ _ _ h
/-- The call, its tuple, the state, the code, t's block, the state in it. -/
def stV (G : Gm.G) (r : Ros.R) (code : Int) (b : Nat) (k : Nat) (vm : Nat → Value) (w : World) : Prop :=
  match k with
  | 0 => ∃ A c, vm 0 = .tuple #[.agg (Im.cells G (.slice A G.shots.length c) r), .int .i64 code] ∧ Lies w w.heap.size 6 A G.shots.length (Gm.shotCells G.shots)
  | 1 => ∃ A c, vm 1 = .tuple #[.agg (Im.cells G (.slice A G.shots.length c) r), .int .i64 code] ∧ Lies w w.heap.size 6 A G.shots.length (Gm.shotCells G.shots)
  | 2 => ∃ A c, vm 2 = .agg (Im.cells G (.slice A G.shots.length c) r) ∧ Lies w w.heap.size 6 A G.shots.length (Gm.shotCells G.shots)
  | 3 => vm 3 = .int .i64 code
  | 4 => ∃ B g' A' m' c' r', vm 4 = .pointer (some ⟨B, 0, none⟩) ∧ b ≤ B ∧ Box w B 35 (Im.cells g' (.slice A' m' c') r')
  | _ => ∃ B A c, vm 4 = .pointer (some ⟨B, 0, none⟩) ∧ b ≤ B ∧ Box w B 35 (Im.cells G (.slice A G.shots.length c) r) ∧ Lies w w.heap.size 6 A G.shots.length (Gm.shotCells G.shots)
section
variable {G : Gm.G} {r : Ros.R} {code : Int} {b k : Nat} {vm vm' : Nat → Value} {w w' : World}
theorem stV_1 (h : stV G r code b 1 vm w) : ∃ A c, vm 1 = .tuple #[.agg (Im.cells G (.slice A G.shots.length c) r), .int .i64 code] ∧ Lies w w.heap.size 6 A G.shots.length (Gm.shotCells G.shots) := h
theorem stV_0 (h : stV G r code b 0 vm w) : ∃ A c, vm 0 = .tuple #[.agg (Im.cells G (.slice A G.shots.length c) r), .int .i64 code] ∧ Lies w w.heap.size 6 A G.shots.length (Gm.shotCells G.shots) := h
theorem stV_2 (h : stV G r code b 2 vm w) : ∃ A c, vm 2 = .agg (Im.cells G (.slice A G.shots.length c) r) ∧ Lies w w.heap.size 6 A G.shots.length (Gm.shotCells G.shots) := h
theorem stV_3 (h : stV G r code b 3 vm w) : vm 3 = .int .i64 code := h
theorem stV_4 (h : stV G r code b 4 vm w) : ∃ B g' A' m' c' r', vm 4 = .pointer (some ⟨B, 0, none⟩) ∧ b ≤ B ∧ Box w B 35 (Im.cells g' (.slice A' m' c') r') := h
theorem stV_5 (h : stV G r code b 5 vm w) : ∃ B A c, vm 4 = .pointer (some ⟨B, 0, none⟩) ∧ b ≤ B ∧ Box w B 35 (Im.cells G (.slice A G.shots.length c) r) ∧ Lies w w.heap.size 6 A G.shots.length (Gm.shotCells G.shots) := h
theorem stV_below (h : stV G r code b k vm w) (hb : Below w.heap.size w w') : stV G r code b k vm w' := by
  match k, h with
  | 0, ⟨A, c, e, hl⟩ => exact ⟨A, c, e, hl.call hb⟩
  | 1, ⟨A, c, e, hl⟩ => exact ⟨A, c, e, hl.call hb⟩
  | 2, ⟨A, c, e, hl⟩ => exact ⟨A, c, e, hl.call hb⟩
  | 3, h => exact h
  | 4, ⟨B, g', A', m', c', r', e, hb', hB⟩ => exact ⟨B, g', A', m', c', r', e, hb', hB.below hb hB.lt⟩
  | k + 5, ⟨B, A, c, e, hb', hB, hl⟩ => exact ⟨B, A, c, e, hb', hB.below hb hB.lt, hl.call hb⟩
theorem stV_row {B : Nat} {g g' : Gm.G} {q r' : Ros.R} {A A' : Option Addr} {m m' c c' : Nat} (h : stV G r code b k vm w) (hk : k < 5) (h4 : vm 4 = .pointer (some ⟨B, 0, none⟩)) (hB : Box w B 35 (Im.cells g (.slice A m c) q)) : stV G r code b k vm (w.setRow B (Im.cells g' (.slice A' m' c') r')) := by
  match k, h with
  | 0, ⟨A, c, e, hl⟩ => exact ⟨A, c, e, hl.state_row rfl hB _⟩
  | 1, ⟨A, c, e, hl⟩ => exact ⟨A, c, e, hl.state_row rfl hB _⟩
  | 2, ⟨A, c, e, hl⟩ => exact ⟨A, c, e, hl.state_row rfl hB _⟩
  | 3, h => exact h
  | 4, ⟨B', g1, A1, m1, c1, r1, e, hb', hB'⟩ =>
    have eb : B' = B := by rw [e] at h4; injection h4 with h4; injection h4 with h4; injection h4
    subst eb
    exact ⟨B', g', A', m', c', r', e, hb', hB.row _⟩
theorem stV_congr (h : stV G r code b k vm w) (hk : k < 6) (h0 : vm k = vm' k) (h4 : k = 5 → vm 4 = vm' 4) : stV G r code b k vm' w := by
  match k, hk, h with
  | 0, _, ⟨A, c, e, hl⟩ => exact ⟨A, c, h0 ▸ e, hl⟩
  | 1, _, ⟨A, c, e, hl⟩ => exact ⟨A, c, h0 ▸ e, hl⟩
  | 2, _, ⟨A, c, e, hl⟩ => exact ⟨A, c, h0 ▸ e, hl⟩
  | 3, _, h => exact h0.symm.trans h
  | 4, _, ⟨B, g', A', m', c', r', e, hb', hB⟩ => exact ⟨B, g', A', m', c', r', h0 ▸ e, hb', hB⟩
  | 5, _, ⟨B, A, c, e, hb', hB, hl⟩ => exact ⟨B, A, c, (h4 rfl) ▸ e, hb', hB, hl⟩
end
end Go.Proofs.YtiahpncglpfjeaaGreat
namespace Go.Proofs.YtiahpncglpfjeaaGreat
open Go Go.RowKit Go.Shelf
set_option linter.unusedVariables false
set_option linter.unusedSimpArgs false

/-- What Make hands back: entries that go through, one behind the other. -/
def Made (d : Int) (n : Nat) (w : World) (e : Ending) (w' : World) : Prop :=
  ∃ (A : Option Addr) (c : Nat) (l : List En.S) (u : Fd.S), e = .returned (.slice A l.length c) ∧ LiesS w' w'.heap.size A l.length l ∧ (∀ q ∈ l, ∀ i, i < 8 → Gm.tyIn (q.e.inp i)) ∧ Fd.run (Fd.start d) (Fd.es l) = some u ∧ l.length ≤ n ∧ Below w.heap.size w w' ∧ l.length ≤ c
theorem Mk.cap {w W : World} {bs : Nat} {d : Int} {u : Fd.S} {A AO : Option Addr} {c cO : Nat} {out : List En.S} (h : Mk w bs d u A c AO cO out W) : out.length ≤ cO := by
  obtain ⟨_, ⟨e, h0⟩ | ⟨g, cap, cur, e, _, _, hc, _⟩⟩ := h.own
  · omega
  · injection e with _ _ e
    omega
/-- What lies there while an entry is put together. -/
structure Mr (wr : World) (k : Nat) (r : Ros.R) (evs : List En.Ev) (ps : Nat → Gm.In) (AE : Option Addr) (cE : Nat) (W : World) : Prop where
  en : Box W wr.heap.size 42 (En.cells ⟨k, evs, ps⟩ (.slice AE evs.length cE))
  ro : Box W (wr.heap.size + 1) 33 (Ros.cells r)
  ev : LT W 61 4 AE evs.length (En.evCells evs)
  below : Below wr.heap.size wr W
section
variable {wr W W' : World} {k : Nat} {r r' : Ros.R} {evs : List En.Ev} {ps ps' : Nat → Gm.In} {AE : Option Addr} {cE : Nat}
theorem Mr.call (h : Mr wr k r evs ps AE cE W) (hb : Below W.heap.size W W') : Mr wr k r evs ps AE cE W' :=
  ⟨h.en.below hb h.en.lt, h.ro.below hb h.ro.lt, h.ev.call hb, h.below.trans (hb.mono h.below.size)⟩
theorem Mr.ros (h : Mr wr k r evs ps AE cE W) (r' : Ros.R) : Mr wr k r' evs ps AE cE (W.setRow (wr.heap.size + 1) (Ros.cells r')) :=
  ⟨h.en.row_far (by omega) _, h.ro.row _, h.ev.row h.ro (by decide) _, Below.setRow' h.below (by omega) _⟩
theorem Mr.inp (h : Mr wr k r evs ps AE cE W) (ps' : Nat → Gm.In) : Mr wr k r evs ps' AE cE (W.setRow wr.heap.size (En.cells ⟨k, evs, ps'⟩ (.slice AE evs.length cE))) :=
  ⟨h.en.row _, h.ro.row_far (by omega) _, h.ev.row h.en (by decide) _, Below.setRow' h.below (Nat.le_refl _) _⟩
end
theorem LT.set {w : World} {t t' : TypeId} {size n B : Nat} {A : Option Addr} {xs : List Value} {old : Array Value} (h : LT w t size A n xs) (hB : Box w B t' old) (hne : t ≠ t') (i : Nat) (v : Value) : LT (w.setCell ⟨B, i, none⟩ v) t size A n xs :=
  h.stays ((Below.refl 0 w).setCell (Nat.zero_le _) v).size fun ad e => heap_setCell_other w ⟨B, i, none⟩ _ v fun eb => by
    obtain ⟨cs1, fz, h1⟩ := h.typed.is ad e
    rw [eb, hB.is] at h1
    injection h1 with h1
    injection h1 with _ ht _
    exact hne ht.symm
/-- An event is put into the entry. -/
theorem Mr.event {wr W : World} {k : Nat} {r : Ros.R} {ps : Nat → Gm.In} (h : Mr wr k r [] ps none 0 W) (v : En.Ev) :
    Mr wr k r [v] ps (some ⟨W.heap.size, 0, none⟩) 1 ((W.setCell ⟨wr.heap.size, 1, none⟩ (.slice (some ⟨W.heap.size, 0, none⟩) 1 1)).alloc (.cells #[.int .i64 v.kind, .int .i64 v.slot, .int .i64 v.gen, .int .i64 v.peer] 61)) :=
  have hs : (W.setCell ⟨wr.heap.size, 1, none⟩ (.slice (some ⟨W.heap.size, 0, none⟩) 1 1)).heap.size = W.heap.size := by simp
  ⟨(h.en.put 1 _).alloc _, (h.ro.far (by show _ ≠ wr.heap.size; omega) _).alloc _, LT.boxed (xs := En.evCells [v]) (Box.made_at (n := W.heap.size) _ _ _ hs.symm) rfl, (h.below.setCell (Nat.le_refl _) _).alloc (by rw [hs]; exact h.below.size) _⟩
theorem Fd.Turn.cells_in (q : Fd.Turn) (i c : Nat) (hi : i < 8) (hc : c < 3) : q.cells[1 + i * 3 + c]? = (q.inp i).cells[c]? := by
  match i, hi with
  | 0, _ | 1, _ | 2, _ | 3, _ | 4, _ | 5, _ | 6, _ | 7, _ =>
    match c, hc with
    | 0, _ | 1, _ | 2, _ => rfl
theorem addr_succ (a : Addr) (m : Nat) : a.add (m + 1) = ⟨a.block, a.off + (m + 1), none⟩ := by unfold Addr.add; rw [if_neg (by omega)]
theorem fq_ros {B0 : Nat} {W : World} {o : Oper} {a : Act} {K : Act → Prop} {B : Nat} {r : Ros.R} {x : Operand} (ho : o.op = .load 33 x) (hx : a.eval x = .pointer (some ⟨B, 0, none⟩)) (hB : ∀ q : Ext B0 W, Box q.w B 33 (Ros.cells r)) (h : K (a.put o.dst (.agg (Ros.cells r)))) :
    o.quiet Tryz.prog a (fun w' => ∃ q : Ext B0 W, w' = q.w) K :=
  ⟨_, fun w hw => by obtain ⟨q, e'⟩ := hw; subst e'; unfold Oper.quietAt; rw [exec_load_blk ho hx (hB q) Tryz.underlying33 rfl ros_info]; exact ⟨rfl, rfl⟩, h⟩
theorem exec_load_event {o : Oper} {a : Act} {w : World} {x : Operand} {ad : Addr} (v : En.Ev) (ho : o.op = .load 61 x) (hx : a.eval x = .pointer (some ad)) (hc : ∀ j u, v.cells[j]? = some u → w.cell? (ad.add j) = some u) :
    (execOp a.eval o).run Tryz.prog w = .ok (.value (.agg #[.int .i64 v.kind, .int .i64 v.slot, .int .i64 v.gen, .int .i64 v.peer])) w :=
  exec_load_any (cs := v.cells) ho hx hc Tryz.underlying61 rfl ev4_size
theorem refevent_is (s : Fd.S) (v : En.Ev) (hv : En.evOk v) : ∃ (r2 : Ros.R) (code : Int), ∀ w, Calls Tryz.prog 31 #[.agg (Ros.cells s.r), .agg #[.int .i64 v.kind, .int .i64 v.slot, .int .i64 v.gen, .int .i64 v.peer]] w fun e w' => e = .returned (.tuple #[.agg (Ros.cells r2), .int .i64 code]) ∧ Below w.heap.size w w' := by
  by_cases h : Fd.MayEv s v
  · exact ⟨_, 0, fun w => refevent_yes s v w h⟩
  · exact ⟨_, 1, fun w => refevent_no s v w hv h⟩
theorem refslot_is (r : Ros.R) (p : Int) (hok : Ros.Ok r) (hp : 0 ≤ p) : ∃ v : Int, (v = -1 ∨ ∃ k : Nat, k < 8 ∧ v = k ∧ r.peer k = p) ∧ ∀ w, Calls Tryz.prog 26 #[.agg (Ros.cells r), .int .i64 p] w fun e w' => e = .returned (.int .i64 v) ∧ Below w.heap.size w w' := by
  by_cases h : ∃ k : Nat, k < 8 ∧ r.peer k = p
  · obtain ⟨k, hk, he⟩ := h
    refine ⟨k, .inr ⟨k, hk, rfl, he⟩, fun w => (refslot_any r p w).mono ?_⟩
    rintro e w' ⟨⟨v, rfl, ⟨_, hno⟩ | ⟨k', hk', rfl, _, _, he'⟩⟩, hb⟩
    · exact absurd he (hno hok hp k hk)
    · obtain rfl : k' = k := hok.one hk' hk (he'.trans he.symm) (by rw [he']; omega)
      exact ⟨rfl, hb⟩
  · refine ⟨-1, .inl rfl, fun w => (refslot_any r p w).mono ?_⟩
    rintro e w' ⟨⟨v, rfl, ⟨rfl, _⟩ | ⟨k', hk', rfl, _, _, he'⟩⟩, hb⟩
    · exact ⟨rfl, hb⟩
    · exact absurd ⟨k', hk', he'⟩ h

set_option maxRecDepth 100000 in
set_option maxHeartbeats 2500000 in
theorem make_any (seed : ByteArray) (l : List Fd.Turn) (A : Option Addr) (n c : Nat) (d : Int) (w : World) (hsz : seed.size ≤ maxLen) (hd : d = Dn.seed seed.data.toList) (hn : n = l.length) (hn100 : n ≤ 100) (hl : Lies w w.heap.size 25 A n (l.flatMap Fd.Turn.cells)) (hty : ∀ q ∈ l, q.ty) :
    Calls Tryz.prog 18 #[.string seed, .slice A n c] w (Made d n w) := by
  have cs := fun X => Lib.hid (start_any seed X hsz)
  have hdb := Dn.seed_bd seed.data.toList
  rw [← hd] at cs hdb
  have HDB := Lib.hid hdb
  have HL := Lib.hid hl
  have HT := Lib.hid hty
  have HN := Lib.hid hn
  clear hsz hd hdb hl hty hn
  go_enter Tryz.func18, Tryz.ntmps18
  go_upto_region 2 with (first | (with_reducible refine alloc_state rfl rfl ?_) | (with_reducible refine im_store_new rfl rfl rfl rfl Im.zero_size rfl ?_) | (go_at_call 22; ((with_reducible refine ((cs _).out).mono ?_); rintro x w1 ⟨rfl, hb⟩; have S1 := Lib.hid (Box.made w1 35 (Im.cells (Gm.new d) (.slice none 0 0) Ros.new)); have K1 := Lib.hid (hb.alloc hb.size (.cells (Im.cells (Gm.new d) (.slice none 0 0) Ros.new) 35)); have sz1 := hb.size; clear hb)))
  generalize hW1 : w1.alloc (.cells (Im.cells (Gm.new d) (.slice none 0 0) Ros.new) 35) = W1 at S1 K1 ⊢
  generalize hbs : w1.heap.size = bs at S1 sz1 ⊢
  clear hW1 hbs
  have M1 := Lib.hid (show Mk w bs d (Fd.start d) none 0 none 0 [] W1 from ⟨S1.out, LT.nil, World.ownsRow_nil _ _ _ _, fun q h => (nomatch h), fun q h => (nomatch h), fun q h => (nomatch h), rfl, sz1, K1.out⟩)
  clear S1 K1 cs sz1
  go_wp2
  go_loopw [6, 7, 8, 9, 10, 11, 12, 13, 14, 15, 16] (fun o i _ _ _ _ _ _ _ _ _ wr => ∃ (k : Nat) (u : Fd.S) (A' : Option Addr) (c' : Nat) (AO : Option Addr) (cO : Nat) (out : List En.S), k ≤ n ∧ i = .int .i64 k ∧ o = .slice AO out.length cO ∧ out.length = k ∧ Mk w bs d u A' c' AO cO out wr) (fun _ i _ _ _ _ _ _ _ _ _ _ => n - (intOf i).toNat)
  case atStart => exact ⟨0, Fd.start d, none, 0, none, 0, [], Nat.zero_le _, rfl, rfl, rfl, M1.out⟩
  case round =>
    obtain ⟨k, u, A', c', AO, cO, out, hk, rfl, rfl, hout, hM⟩ := hrel
    rename World => w0
    have HO := Lib.hid hout
    clear hout
    clear M1
    by_cases hlt : k < n
    · have hk8 : (k : Int) < n := by omega
      have hkl : k < l.length := by have := HN.out; omega
      have hFi := ((Fd.start_fine HDB.out).run hM.run).1
      have hLw := (HL.out.below hM.below)
      obtain ⟨ad, rfl, hblk⟩ := hLw.start (by omega)
      have hrow : ∀ j v, j < 25 → l[k].cells[j]? = some v → w0.cell? ((ad.add (k * 25)).add j) = some v := fun j v hj hv => by
        rw [add_twice]
        exact hLw.cell ad rfl (by omega) _ v (by rw [flat_at Fd.Turn.cells_len l k j hkl hj, hv])
      have hq := HT.out l[k] (List.getElem_mem hkl)
      generalize l[k] = q at hrow hq
      have szM := hM.below.size
      have hbw : (ad.add (k * 25)).block < w0.heap.size := by rw [add_block]; exact Nat.lt_of_lt_of_le hblk szM
      have TC := Lib.hid (fun (X : World) (hX : Below w0.heap.size w0 X) (j : Nat) (v : Value) (hj : j < 25) (hv : q.cells[j]? = some v) => (hX.cell (p := (ad.add (k * 25)).add j) (by rw [add_block]; exact hbw)).trans (hrow j v hj hv))
      have HM := Lib.hid hM
      have HF := Lib.hid hFi
      have HQ := Lib.hid hq
      have E1 := Lib.hid (Box.made w0 42 (En.cells (Fd.eI k) (.slice none 0 0)))
      have M2 := Lib.hid (hM.call (one_below w0 (.cells (En.cells (Fd.eI k) (.slice none 0 0)) 42)))
      have E2 := Lib.hid (E1.out.alloc (.cells (Ros.cells u.r) 33))
      have R2 := Lib.hid (Box.made_at (n := w0.heap.size + 1) (w0.alloc (.cells (En.cells (Fd.eI k) (.slice none 0 0)) 42)) 33 (Ros.cells u.r) (by simp))
      have K2 := Lib.hid (two_below' w0 (.cells (En.cells (Fd.eI k) (.slice none 0 0)) 42) (.cells (Ros.cells u.r) 33))
      have hp0 : w0.cell? (ad.add (k * 25)) = some (.int .i64 q.peer) := hrow 0 _ (by decide) rfl
      have hqp := hq.1
      obtain ⟨pe, hpe⟩ : ∃ pe, pe = q.peer := ⟨_, rfl⟩
      rw [← hpe] at hp0 hqp
      obtain ⟨p, hp40, hpp⟩ : ∃ p : Nat, p < 40 ∧ wrap64 ((IntKind.u64.wrap pe).tmod 40) = (p : Int) := by
        rw [wrap_u64']
        obtain ⟨z, hz⟩ : ∃ z, z = pe % 18446744073709551616 := ⟨_, rfl⟩
        rw [← hz]
        have hz0 : 0 ≤ z := by omega
        clear hz
        refine ⟨(z % 40).toNat, by omega, ?_⟩
        rw [Int.tmod_eq_emod_of_nonneg hz0, IntWalk.wrap64_in _ (by omega)]
        omega
      clear hFi hLw hq hM hrow hpe
      go_upto_region 9 with (first | (with_reducible refine alloc_en rfl rfl ?_) | (with_reducible refine en_store_new rfl rfl rfl rfl En.zeroC_size rfl ?_) | (refine wpList_build_is rfl (t := 42) (vs := [(0, .int .i64 k)]) rfl rfl (en_built_I k) ?_) | (with_reducible refine ros_alloc rfl rfl ?_) | (with_reducible refine ros_store_new rfl rfl rfl rfl rfl ?_) | ((with_reducible refine im_load_ros rfl rfl ?_); apply LoadIm.mk rfl; (focus (with_reducible exact M2.out.st)); dsimp only))
      rw [hpp]
      have RD := Lib.hid (show Mr w0 k u.r [] Fd.in0 none 0 ((w0.alloc (.cells (En.cells (Fd.eI k) (.slice none 0 0)) 42)).alloc (.cells (Ros.cells u.r) 33)) from ⟨E2.out, R2.out, LT.nil, K2.out⟩)
      generalize ((w0.alloc (.cells (En.cells (Fd.eI k) (.slice none 0 0)) 42)).alloc (.cells (Ros.cells u.r) 33)) = W2 at RD ⊢
      clear hpp hp0 E1 E2 R2 K2 M2 hqp

      go_upto_if 38 with fail
      go_cut [11, 12] from 19 to 141 (fun _ _ wx => ∃ (evs : List En.Ev) (AE : Option Addr) (cE : Nat), Mr w0 k u.r evs Fd.in0 AE cE wx ∧ evs.length ≤ 1 ∧ ∀ v ∈ evs, En.evOk v)
      case first =>
        by_cases hp12 : p < 12
        · have hp12' : (p : Int) < 12 := by omega
          obtain ⟨v1, hv1, hs1⟩ := refslot_is u.r p HF.out.ok.2.1 (by omega)
          have cs1 := fun X => Lib.hid (hs1 X)
          have cf1 := fun X => Lib.hid (reffree_is u.r X HF.out.ok.2.1)
          have hv2 := Fd.freeV_is u.r
          have hseat := fun (j : Nat) (hj : j < 8) => Ros.Ok.seat HF.out.ok.2.1 j hj
          have HS := Lib.hid hseat
          generalize Fd.freeV u.r = v2 at cf1 hv2
          clear hs1 hseat
          go_upto_region 10 with fail
          have ZR := Lib.hid (fun q : Ext W2.heap.size W2 => RD.out.ro.below q.h RD.out.ro.lt)
          have RX := Lib.hid (fun q : Ext W2.heap.size W2 => RD.out.call q.h)
          refine wp_region_ext W2.heap.size W2 (by kernel_rfl) (by kernel_rfl) (Below.refl _ _) ?_
          repeat (first | (go_big_quiet_want; refine fq_ros rfl rfl ZR.out ?_; simp only [Act.put, List.setIfInBounds_toArray, List.set_cons_succ, List.set_cons_zero]; go_big_quiet_on) | go_big_quiet_step ((first | (go_at_call 26; with_reducible exact Calls.ext_of (Nat.le_refl _) (cs1 _).out) | (go_at_call 40; with_reducible exact Calls.ext_of (Nat.le_refl _) (cf1 _).out))))
          refine wpQuiet_nil ?_
          intro _ hw'
          obtain ⟨q3, hw''⟩ := hw'
          subst hw''
          have R3 := Lib.hid (RX.out q3)
          generalize q3.w = W3 at *
          clear cs1 cf1 ZR RX RD q3
          have n1 := (R3.out.en.cell 1).trans (En.cells_1 _ _)
          have f1 := R3.out.en.free 1
          have l1 := R3.out.en.lt
          rcases hv1 with rfl | ⟨k1, hk1, rfl, hpk⟩
          · rcases hv2 with rfl | ⟨k2, hk2, rfl, hg2⟩
            · go_wp2
              go_meet
              exact ⟨[], none, 0, R3.out, by simp, fun v h => (nomatch h)⟩
            · have hk28 : (k2 : Int) < 8 := by omega
              have g3 := (R3.out.ro.cell (1 + k2 * 2 + 1)).trans (Ros.cells_gen u.r k2 hk2)
              obtain ⟨gk, hgk⟩ : ∃ gk, gk = u.r.gen k2 := ⟨_, rfl⟩
              have hgb := (HS.out k2 hk2).1
              rw [← hgk] at g3 hg2 hgb
              have hw1 : IntKind.i64.wrap (gk + 1) = gk + 1 := by rw [IntKind.wrap_i64]; omega
              have J := Lib.hid (R3.out.event ⟨1, k2, gk + 1, p⟩)
              have OKV := Lib.hid (show En.evOk ⟨1, k2, gk + 1, p⟩ from ⟨.inr rfl, ⟨by show (0 : Int) ≤ k2; omega, hk28⟩, ⟨by show 1 ≤ gk + 1; omega, by show gk + 1 ≤ 60000; omega⟩, by show (0 : Int) ≤ p; omega, hp12'⟩)
              clear hgk
              go_wp2
              go_meet
              exact ⟨[⟨1, k2, gk + 1, p⟩], _, 1, J.out, by simp, fun v h => by obtain rfl := List.mem_singleton.1 h; exact OKV.out⟩
          · have hk18 : (k1 : Int) < 8 := by omega
            have g3 := (R3.out.ro.cell (1 + k1 * 2 + 1)).trans (Ros.cells_gen u.r k1 hk1)
            obtain ⟨gk, hgk⟩ : ∃ gk, gk = u.r.gen k1 := ⟨_, rfl⟩
            have hgb := (HS.out k1 hk1)
            unfold Ros.OkSeat at hgb
            rw [← hgk, hpk] at hgb
            rw [← hgk] at g3
            have J := Lib.hid (R3.out.event ⟨2, k1, gk, p⟩)
            have OKV := Lib.hid (show En.evOk ⟨2, k1, gk, p⟩ from ⟨.inl rfl, ⟨by show (0 : Int) ≤ k1; omega, hk18⟩, ⟨by show 1 ≤ gk; omega, by show gk ≤ 60000; omega⟩, by show (0 : Int) ≤ p; omega, hp12'⟩)
            clear hgk hgb hpk
            go_wp2
            go_meet
            exact ⟨[⟨2, k1, gk, p⟩], _, 1, J.out, by simp, fun v h => by obtain rfl := List.mem_singleton.1 h; exact OKV.out⟩
        · have hp12' : ¬ (p : Int) < 12 := by omega
          go_wp2
          go_meet
          exact ⟨[], none, 0, RD.out, by simp, fun v h => (nomatch h)⟩
      case rest =>
        obtain ⟨evs, AE, cE, hMr, hlen, hok⟩ := hcut
        have R4 := Lib.hid hMr
        have OKE := Lib.hid hok
        clear hMr hok RD
        have n1 := (R4.out.en.cell 1).trans (En.cells_1 _ _)
        go_wp2
        go_loopw [13] (fun i wr => ∃ (j : Nat) (r' : Ros.R), j ≤ evs.length ∧ i = .int .i64 j ∧ Mr w0 k r' evs Fd.in0 AE cE wr) (fun i _ => evs.length - (intOf i).toNat)
        case atStart => exact ⟨0, u.r, Nat.zero_le _, rfl, R4.out⟩
        case round =>
          obtain ⟨j, r', hj, rfl, hRj⟩ := hrel
          clear n1 R4
          have RJ := Lib.hid hRj
          clear hRj
          have n1 := (RJ.out.en.cell 1).trans (En.cells_1 _ _)
          by_cases hjl : j < evs.length
          · have hjl8 : (j : Int) < evs.length := by omega
            obtain ⟨ad2, rfl, hb2⟩ := RJ.out.ev.lies.start (by omega)
            have hev := fun i v (hi : i < 4) (hv : (evs[j]).cells[i]? = some v) => RJ.out.ev.lies.cell ad2 rfl (by omega) (j * 4 + i) v (by rw [En.evCells_at evs j i hjl hi]; exact hv)
            have hvo := OKE.out evs[j] (List.getElem_mem hjl)
            generalize evs[j] = ev at hev hvo
            obtain ⟨r2, code, hcs⟩ := refevent_is ⟨u.g, r'⟩ ev hvo
            have CE := Lib.hid hcs
            have RX := Lib.hid (fun X (hX : Below wr.heap.size wr X) => RJ.out.ro.below hX RJ.out.ro.lt)
            have NX := Lib.hid (fun X (hX : Below wr.heap.size wr X) => ((RJ.out.en.below hX RJ.out.en.lt).cell 1).trans (En.cells_1 _ _))
            have EX := Lib.hid (fun X (hX : Below wr.heap.size wr X) (i : Nat) (v : Value) (hv : ev.cells[i]? = some v) => (hX.cell (p := (ad2.add (j * 4)).add i) (by rw [add_block, add_block]; exact hb2)).trans (show wr.cell? ((ad2.add (j * 4)).add i) = some v by rw [add_twice]; exact hev i v (by have := (List.getElem?_eq_some_iff.1 hv).1; exact this) hv))
            clear hcs hvo hev
            go_upto_region 18 with fail
            refine Rp.wp_region_lex (by kernel_rfl) [] (by kernel_rfl) (fun X => Below wr.heap.size wr X) (fun X => Below wr.heap.size wr X) (fun _ => True) ((Below.refl _ _).drew) (fun W hW => ⟨hW, trivial⟩) ?_
            repeat (first
              | (apply Rp.lex_free rfl rfl; focus (intro _; go_simp; first | done | rfl))
              | (apply Rp.lex_look rfl rfl rfl rfl; focus (intro W hW; exact exec_load_ros rfl rfl (RX.out W hW)))
              | (apply Rp.lex_look rfl rfl rfl rfl; focus (intro W hW; exact exec_load_event ev rfl rfl (EX.out W hW)))
              | (apply Rp.lex_look rfl rfl rfl rfl; focus (intro W hW; have q0 := NX.out W hW; clear hW; go_simp; first | done | rfl)))
            refine Rp.lex_call (C' := fun X => Below wr.heap.size wr X) (v := .tuple #[.agg (Ros.cells r2), .int .i64 code]) (f := 31) (args := #[.agg (Ros.cells r'), .agg #[.int .i64 ev.kind, .int .i64 ev.slot, .int .i64 ev.gen, .int .i64 ev.peer]]) rfl ?_ ?_ ?_ ?_
            · intro Z hZ; clear hZ; go_simp; first | done | rfl | exact ⟨rfl, rfl⟩
            · intro Z hZ
              exact (CE.out Z).mono (fun e w' h => ⟨h.1, hZ.trans (h.2.mono hZ.size)⟩)
            · exact fun Z hZ => ⟨hZ, trivial⟩
            repeat (apply Rp.lex_free rfl rfl; focus (intro _; go_simp; first | done | rfl))
            refine Rp.lex_store (C' := fun Y => ∃ X, Below wr.heap.size wr X ∧ Y = X.setRow (w0.heap.size + 1) (Ros.cells r2)) (D' := fun _ => True) rfl rfl ?_ (fun _ _ => ⟨trivial, trivial⟩) ?_
            · intro Z hZ
              refine ⟨_, exec_store_blk (B := w0.heap.size + 1) (cs := Ros.cells r2) (old := Ros.cells r') rfl ?_ ?_ (RX.out Z hZ) ros_info (Eq.trans (b := 17) rfl rfl) (ros_one _), Z, hZ, rfl⟩ <;> (clear hZ; go_simp; first | done | rfl)
            refine Rp.lex_end fun W3 hW3 => ?_
            obtain ⟨X, hX, rfl⟩ := hW3
            have R6 := Lib.hid ((RJ.out.call hX).ros r2)
            clear CE RX NX EX RJ hX n1 hb2
            go_wp2
            go_roundw
            case rel => exact ⟨j + 1, r2, by omega, by go_num, R6.out⟩
            case measure => simp [intOf]; omega
          · have hjl8 : ¬ (j : Int) < evs.length := by omega
            go_upto_region 19 with fail
            clear hjl8 hjl hj n1
            go_wp2
            go_loopw [14] (fun i wr => ∃ (j : Nat) (ps : Nat → Gm.In), j ≤ 8 ∧ i = .int .i64 j ∧ (∀ i, i < 8 → Gm.tyIn (ps i)) ∧ Mr w0 k r' evs ps AE cE wr) (fun i _ => 8 - (intOf i).toNat)
            case atStart => exact ⟨0, Fd.in0, by omega, rfl, in0_tyin, RJ.out⟩
            case round =>
              obtain ⟨i, ps, hi, rfl, hps, hRi⟩ := hrel
              clear RJ
              have RI := Lib.hid hRi
              have HPS := Lib.hid hps
              clear hRi hps
              by_cases hi8 : i < 8
              · have hi8' : (i : Int) < 8 := by omega
                have c0 := (RI.out.ro.cell (1 + i * 2)).trans (Ros.cells_peer r' i hi8)
                obtain ⟨pk, hpk⟩ : ∃ pk, pk = r'.peer i := ⟨_, rfl⟩
                rw [← hpk] at c0
                have ha : ∀ t, (⟨(ad.add (k * 25)).block, (ad.add (k * 25)).off + 1 + i * 3 + t, none⟩ : Addr) = (ad.add (k * 25)).add (1 + i * 3 + t) := fun t => by rw [show 1 + i * 3 + t = (i * 3 + t) + 1 by omega, addr_succ, show (ad.add (k * 25)).off + 1 + i * 3 + t = (ad.add (k * 25)).off + (i * 3 + t + 1) by omega]
                have hx := fun t ht v hv => (congrArg wr.cell? (ha t)).trans (TC.out wr RI.out.below (1 + i * 3 + t) v (by omega) ((Fd.Turn.cells_in q i t hi8 ht).trans hv))
                have htp := HQ.out.2 i hi8
                generalize q.inp i = P at hx htp
                have x0 : wr.cell? ⟨(ad.add (k * 25)).block, (ad.add (k * 25)).off + 1 + i * 3, none⟩ = some (.int .i8 P.x) := hx 0 (by decide) _ rfl
                have x1 : wr.cell? ⟨(ad.add (k * 25)).block, (ad.add (k * 25)).off + 1 + i * 3 + 1, none⟩ = some (.int .i8 P.y) := hx 1 (by decide) _ rfl
                have x2 : wr.cell? ⟨(ad.add (k * 25)).block, (ad.add (k * 25)).off + 1 + i * 3 + 2, none⟩ = some (.int .u8 P.b) := hx 2 (by decide) _ rfl
                obtain ⟨X, Y, B⟩ := P
                dsimp only at x0 x1 x2
                have HTP := Lib.hid htp
                clear hx ha hpk htp
                by_cases hp0 : pk < 0
                · go_wp2
                  go_roundw
                  case rel => exact ⟨i + 1, ps, by omega, by go_num, HPS.out, RI.out⟩
                  case measure => simp [intOf]; omega
                · by_cases hxx : X = -128
                  · have hxb : (X != -128) = false := by simp [hxx]
                    go_wp2
                    go_roundw
                    case rel => exact ⟨i + 1, ps, by omega, by go_num, HPS.out, RI.out⟩
                    case measure => simp [intOf]; omega
                  · have hxb : (X != -128) = true := by simpa using hxx
                    by_cases hyy : Y = -128
                    · have hyb : (Y != -128) = false := by simp [hyy]
                      go_wp2
                      go_roundw
                      case rel => exact ⟨i + 1, ps, by omega, by go_num, HPS.out, RI.out⟩
                      case measure => simp [intOf]; omega
                    · have hyb : (Y != -128) = true := by simpa using hyy
                      have R6 := Lib.hid (RI.out.inp (En.upd ps i ⟨X, Y, B⟩))
                      go_wp2_with (first | ((with_reducible refine en_store_in rfl rfl ?_); apply StoreIn.mk (u := ⟨X, Y, B⟩) rfl rfl hi8 RI.out.en; dsimp only))
                      go_roundw
                      case rel => exact ⟨i + 1, En.upd ps i ⟨X, Y, B⟩, by omega, by go_num, fun t ht => by (unfold En.upd; split; exact HTP.out; exact HPS.out t ht), R6.out⟩
                      case measure => simp [intOf]; omega
              · obtain rfl : i = 8 := by omega
                have M7 := Lib.hid (HM.out.call RI.out.below)
                have szb := HM.out.st.lt
                have hlm : evs.length ≤ maxLen := by unfold maxLen; omega
                have HLM := Lib.hid hlm
                cases hap : Fd.apply u ⟨k, evs, ps⟩ with
                | none =>
                  have ca := Lib.hid (refapply_none u ⟨k, evs, ps⟩ A' AE u.g.shots.length c' evs.length cE wr HF.out.ty (by have := HF.out.few; unfold maxLen; omega) rfl M7.out.sh.lies rfl hlm RI.out.ev.lies HPS.out hap)
                  clear hap hlm
                  go_wp2_with (first | (with_reducible refine alloc_state rfl rfl ?_) | ((with_reducible refine im_load_state rfl rfl ?_); apply LoadIm.mk rfl; (focus (with_reducible exact M7.out.st)); dsimp only) | ((with_reducible refine en_load rfl rfl ?_); apply LoadEn.mk rfl; (focus (with_reducible exact RI.out.en)); dsimp only) | (with_reducible refine im_store_new rfl rfl rfl rfl Im.zero_size rfl ?_) | (go_at_call 13; ((with_reducible refine ((ca).out).mono ?_); rintro x w8 ⟨A8, c8, rfl, hL, hb⟩; have M8 := Lib.hid ((M7.out.call hb).call (one_below w8 (.cells (Im.cells u.g (.slice A8 u.g.shots.length c8) u.r) 35))); clear hb hL)))
                  go_ret
                  exact ⟨AO, cO, out, u, rfl, M8.out.lies, M8.out.ty, M8.out.run, by have := HO.out; omega, M8.out.below, M8.out.cap⟩
                | some v =>
                  have ca := Lib.hid (refapply_own u v ⟨k, evs, ps⟩ A' AE u.g.shots.length c' evs.length cE wr HF.out.ty (by have := HF.out.few; unfold maxLen; omega) rfl M7.out.sh.lies rfl hlm RI.out.ev.lies HPS.out hap)
                  have HAP := Lib.hid hap
                  clear hap hlm
                  go_upto_region 27 with (first | (with_reducible refine alloc_state rfl rfl ?_) | ((with_reducible refine im_load_state rfl rfl ?_); apply LoadIm.mk rfl; (focus (with_reducible exact M7.out.st)); dsimp only) | ((with_reducible refine en_load rfl rfl ?_); apply LoadEn.mk rfl; (focus (with_reducible exact RI.out.en)); dsimp only) | (with_reducible refine im_store_new rfl rfl rfl rfl Im.zero_size rfl ?_) | (go_at_call 13; ((with_reducible refine ((ca).out).mono ?_); rintro x w8 ⟨A8, c8, rfl, hL, hT, hb⟩; have L9 := Lib.hid ((LT.mk hL hT).call (one_below w8 (.cells (Im.cells v.g (.slice A8 v.g.shots.length c8) v.r) 35))); have M9 := Lib.hid ((M7.out.call hb).call (one_below w8 (.cells (Im.cells v.g (.slice A8 v.g.shots.length c8) v.r) 35))); have R9 := Lib.hid ((RI.out.call hb).call (one_below w8 (.cells (Im.cells v.g (.slice A8 v.g.shots.length c8) v.r) 35))); have N9 := Lib.hid (Box.made w8 35 (Im.cells v.g (.slice A8 v.g.shots.length c8) v.r)); clear hb hL hT)))
                  generalize hW9 : w8.alloc (.cells (Im.cells v.g (.slice A8 v.g.shots.length c8) v.r) 35) = W9 at L9 M9 R9 N9 ⊢
                  generalize w8.heap.size = b9 at N9 ⊢
                  clear hW9 ca
                  have NX := Lib.hid (M9.out.next (q := ⟨⟨k, evs, ps⟩, AE, cE⟩) (c2 := c8) HAP.out L9.out R9.out.ev HLM.out HPS.out)
                  have EN := Lib.hid (R9.out.en.row_far (show w0.heap.size ≠ bs by omega) (Im.cells v.g (.slice A8 v.g.shots.length c8) v.r))
                  have BL := Lib.hid (Below.setRow' M9.out.below M9.out.far (Im.cells v.g (.slice A8 v.g.shots.length c8) v.r))
                  obtain ⟨i0, hi0, hz0, hz1, hz2⟩ := en_parts
                  have hI := Lib.hid hi0
                  have hZ := Lib.hid hz0
                  have hS := Lib.hid hz1
                  have hY := Lib.hid hz2
                  have ho100 : out.length ≤ 100 := by have := HO.out; omega
                  clear hi0 hz0 hz1 hz2
                  go_wp2_with (first | ((with_reducible refine im_load_state rfl rfl ?_); apply LoadIm.mk rfl; (focus (with_reducible exact N9.out)); dsimp only) | ((with_reducible refine im_store_state rfl rfl ?_); apply StoreS.mk rfl rfl; (focus (with_reducible exact M9.out.st)); (focus (exact Im.cells_size _ _ _)); (focus rfl)) | ((with_reducible refine en_load rfl rfl ?_); apply LoadEn.mk rfl; (focus (with_reducible exact EN.out)); dsimp only) | ((with_reducible refine en_build1 rfl rfl ?_); refine BuildEn1.mk (q := ⟨⟨k, evs, ps⟩, AE, cE⟩) rfl ?_) | ((with_reducible refine append_gate (t := 52) (e := 42) (size := 26) (bytes := 56) rfl rfl Tryz.underlying52 hI.out hZ.out hS.out hY.out rfl (by decide) ?_); refine Appends.mk (base := w.heap.size) (n := out.length) (xs := En.sCells out) (m := 1) (news := En.sCells [⟨⟨k, evs, ps⟩, AE, cE⟩]) rfl NX.out.1 (Lies.boxed4 (Box.made _ 42 _) rfl) (En.sCells_one _) (by unfold maxLen; omega) (by omega) (Nat.le_trans BL.out.size (one_below _ _).size) ?_; intro A10 c10 w10 own10 hg10; have M11 := Lib.hid (NX.out.2 A10 c10 w10 own10 hg10); clear own10 hg10))
                  go_roundw
                  case rel => exact ⟨k + 1, v, A8, c8, A10, c10, out ++ [⟨⟨k, evs, ps⟩, AE, cE⟩], by omega, by go_num, by rw [List.length_append]; rfl, by rw [List.length_append, HO.out]; rfl, M11.out⟩
                  case measure => simp [intOf]; omega
    · have hk8 : ¬ (k : Int) < n := by omega
      have M7 := Lib.hid hM
      clear hM
      go_wp2
      go_ret
      exact ⟨AO, cO, out, u, rfl, M7.out.lies, M7.out.ty, M7.out.run, by have := HO.out; omega, M7.out.below, M7.out.cap⟩
end Go.Proofs.YtiahpncglpfjeaaGreat
namespace Go.Proofs.YtiahpncglpfjeaaGreat
open Go Go.RowKit Go.Shelf
set_option linter.unusedVariables false
set_option linter.unusedSimpArgs false

/-- What lies there while the document does a log. -/
structure Rq (w : World) (g : Gm.G) (s : Value) (r : Ros.R) (W : World) : Prop where
  nx : Box W (w.heap.size + 1 + 1) 35 (Im.cells g s r)
  out : Box W (w.heap.size + 1) 35 Im.zero
  below : Below w.heap.size w W
section
variable {w W W' : World} {g : Gm.G} {s : Value} {r : Ros.R}
theorem Rq.call (h : Rq w g s r W) (hb : Below W.heap.size W W') : Rq w g s r W' :=
  ⟨h.nx.below hb h.nx.lt, h.out.below hb h.out.lt, h.below.trans (hb.mono h.below.size)⟩
theorem Rq.store {g' : Gm.G} {s' : Value} {r' : Ros.R} (h : Rq w g s r W) : Rq w g' s' r' (W.setRow (w.heap.size + 1 + 1) (Im.cells g' s' r')) :=
  ⟨h.nx.row _, h.out.row_far (by omega) _, Below.setRow' h.below (by omega) _⟩
end

set_option maxRecDepth 100000 in
set_option maxHeartbeats 4000000 in
theorem refrun_some (u : Fd.S) (s : Fd.S) (l : List En.S) (A AL : Option Addr) (n c m cl : Nat) (w : World) (hs : Fd.Fine s) (hn : n = s.g.shots.length) (hr : Lies w w.heap.size 6 A n (Gm.shotCells s.g.shots)) (hm63 : m ≤ maxLen) (hl : LiesS w w.heap.size AL m l) (hin : ∀ q ∈ l, ∀ i, i < 8 → Gm.tyIn (q.e.inp i)) (h : Fd.run s (Fd.es l) = some u) :
    Calls Tryz.prog 21 #[.agg (Im.cells s.g (.slice A n c) s.r), .slice AL m cl] w (SOut u.g u.r 0 w) := by
  obtain ⟨W1, hW1⟩ : ∃ W1, W1 = ((w.alloc (.cells (Im.cells s.g (.slice A n c) s.r) 35)).alloc (.cells Im.zero 35)).alloc (.cells (Im.cells s.g (.slice A n c) s.r) 35) := ⟨_, rfl⟩
  have R1 : Rq w s.g (.slice A n c) s.r W1 := by
    rw [hW1]
    exact ⟨Box.made_at (n := w.heap.size + 1 + 1) _ _ _ (by simp), (Box.made_at (n := w.heap.size + 1) _ _ _ (by simp)).alloc _, (two_below' w _ _).alloc (by simp <;> omega) _⟩
  have S1 := Lib.hid ((Box.made w 35 (Im.cells s.g (.slice A n c) s.r)).alloc (.cells Im.zero 35))
  have L1 : Lies W1 W1.heap.size 6 A s.g.shots.length (Gm.shotCells s.g.shots) := by have := (hr.below R1.below).wider R1.below.size; rw [hn] at this; exact this
  subst hn
  have HW1 := Lib.hid hW1.symm
  have HS := Lib.hid hs
  have HL := Lib.hid hl
  have HI := Lib.hid hin
  have H := Lib.hid h
  have HM := Lib.hid (show m = l.length from hl.len.symm)
  have m63 : (m : Int) ≤ 9223372036854775807 := by unfold maxLen at hm63; omega
  have M63 := Lib.hid hm63
  have RR := Lib.hid R1
  have LL := Lib.hid L1
  clear hs hr hm63 hl hin hW1 h R1 L1
  go_enter Tryz.func21, Tryz.ntmps21
  go_upto_region 2 with (first | (with_reducible refine alloc_state rfl rfl ?_) | ((with_reducible refine im_load_state rfl rfl ?_); apply LoadIm.mk rfl; (focus (with_reducible exact S1.out)); dsimp only) | (with_reducible refine im_store_new rfl rfl rfl rfl Im.zero_size rfl ?_))
  go_wp2
  rw [show ((w.alloc (.cells (Im.cells s.g (.slice A s.g.shots.length c) s.r) 35)).alloc (.cells Im.zero 35)).alloc (.cells (Im.cells s.g (.slice A s.g.shots.length c) s.r) 35) = W1 from HW1.out]
  go_loopw [7] (fun i wr => ∃ (k : Nat) (t : Fd.S) (A' : Option Addr) (c' : Nat), k ≤ m ∧ i = .int .i64 k ∧ Fd.run s ((Fd.es l).take k) = some t ∧ Rq w t.g (.slice A' t.g.shots.length c') t.r wr ∧ Lies wr wr.heap.size 6 A' t.g.shots.length (Gm.shotCells t.g.shots)) (fun i _ => m - (intOf i).toNat)
  case atStart => exact ⟨0, s, A, c, Nat.zero_le _, rfl, rfl, RR.out, LL.out⟩
  case round =>
    obtain ⟨k, t, A', c', hk, rfl, hch, hR, hL⟩ := hrel
    clear RR LL S1 HW1
    by_cases hlt : k < m
    · have hk8 : (k : Int) < m := by omega
      have hkl : k < l.length := by have := HM.out; omega
      have hke : k < (Fd.es l).length := by unfold Fd.es; rw [List.length_map]; exact hkl
      have hge : (Fd.es l)[k] = l[k].e := Fd.es_at l k hke hkl
      have hb := hR.below
      obtain ⟨ad, rfl, hbl, a0⟩ := (HL.out.below hb).at k hkl
      have he1 := (HL.out.below hb).each l[k] (List.getElem_mem hkl)
      have hf1 := HL.out.few l[k] (List.getElem_mem hkl)
      have hty := HI.out l[k] (List.getElem_mem hkl)
      have hft := (HS.out.run hch).1
      have hgo := fun (v : Fd.S) (h : Fd.apply t l[k].e = some v) => Fd.run_go hke hch (hge ▸ h)
      have hst := fun (h : Fd.apply t l[k].e = none) => Fd.run_stop hke hch (hge ▸ h)
      generalize hu : l[k] = q at a0 he1 hf1 hty hgo hst
      have sz := hb.size
      have HAD := Lib.hid (fun (X : World) (hX : Below wr.heap.size wr X) (j : Nat) (v : Value) (hv : q.cells[j]? = some v) => (hX.cell (p := (ad.add (k * 26)).add j) (by rw [add_block, add_block]; exact Nat.lt_of_lt_of_le hbl sz)).trans (a0 j v hv))
      have HBX := Lib.hid (fun (X : World) (hX : Below wr.heap.size wr X) => hR.nx.below hX hR.nx.lt)
      have RX := Lib.hid hR
      cases hap : Fd.apply t q.e with
      | none => rw [hst hap] at H; cases H.out
      | some v =>
        have CS := Lib.hid (fun (X : World) (hX : Below wr.heap.size wr X) => Lib.hid (refapply_some t v q.e A' q.adr t.g.shots.length c' q.e.evs.length q.cap X hft.ty (by have := hft.few; unfold maxLen; omega) rfl ((hL.below hX).wider hX.size) rfl hf1 ((((he1.wider sz).below hX).wider hX.size)) hty hap))
        have HG := Lib.hid (hgo v hap)
        clear hgo hst hap hft hty hf1 he1 a0 hch hR hL hb hge hu
        have hx2 := RX.out.out.lt
        go_upto_region 5 with fail
        refine Rz.wp_region_z (by kernel_rfl) 5 11 (by kernel_rfl) (fun X => Below wr.heap.size wr X) (fun j vm => stV v.g v.r 0 wr.heap.size (j - 5) (fun k => vm (5 + k))) ((Below.refl _ _).drew) ?hvd ?_
        case hvd =>
          intro j vm vm' X h1 h2 he hV
          obtain rfl | rfl | rfl | rfl | rfl | rfl : j = 5 ∨ j = 6 ∨ j = 7 ∨ j = 8 ∨ j = 9 ∨ j = 10 := by omega
          · exact stV_congr hV (by omega) (he 5 (.inl rfl)) (fun h => absurd h (by decide))
          · exact stV_congr hV (by omega) (he 6 (.inl rfl)) (fun h => absurd h (by decide))
          · exact stV_congr hV (by omega) (he 7 (.inl rfl)) (fun h => absurd h (by decide))
          · exact stV_congr hV (by omega) (he 8 (.inl rfl)) (fun h => absurd h (by decide))
          · exact stV_congr hV (by omega) (he 9 (.inl rfl)) (fun h => absurd h (by decide))
          · exact stV_congr hV (by omega) (he 10 (.inl rfl)) (fun _ => he 9 (.inr (by kernel_rfl)))
        simp only [List.take_succ_cons, List.take_zero, List.drop_succ_cons, List.drop_zero, Nat.reduceSub]
        repeat (first
          | (apply Rz.head_op; focus (intro W hW; exact exec_load_state rfl rfl (HBX.out W hW)))
          | (apply Rz.head_op; focus (intro W hW; exact exec_load_entry q rfl rfl (HAD.out W hW)))
          | (apply Rz.head_op; focus (intro W hW; clear hW; go_simp; first | done | rfl)))
        refine Rz.head_split (fun A => A.tmps.size = 32) (by simp only [Rz.put_size]; rfl) ?_ ?_ ?_
        · intro vm X hX hV
          simp only [Rz.putAll]
          clear hV
          refine gives_call (f := 13) (args := #[.agg (Im.cells t.g (.slice A' t.g.shots.length c') t.r), .agg (En.cells q.e q.sl)]) ?_ ((CS.out X hX).mono ?_)
          · go_simp
            first | done | rfl
          · rintro e w' ⟨A2, c2, rfl, hl, hb⟩
            exact ⟨_, rfl, ⟨A2, c2, by simp [Rz.upd], hl⟩, hX.trans (hb.mono hX.size), fun j _ _ _ h => stV_below h hb⟩
        · intro A hAs
          clear CS HBX HAD
          refine ⟨?_, ?_, ?_, ?_, ?_, trivial⟩
          · intro vm X hX hV
            obtain ⟨A2, c2, e, hl⟩ := stV_0 (hV 5 (by omega) (by omega) (by kernel_rfl))
            refine gives_val (w' := X) (Rz.exec_move (v := vm 5) rfl ?_) ⟨⟨A2, c2, by simpa [Rz.upd] using e, hl⟩, hX, fun j _ _ _ h => h⟩
            simp only [Rz.putAll]
            rw [Rz.put_none, Rz.put_other (by decide), Rz.put_other (by decide), Rz.put_other (by decide), Rz.put_other (by decide), Rz.put_same (by rw [hAs]; decide)]
          · intro vm X hX hV
            obtain ⟨A2, c2, e, hl⟩ := stV_1 (hV 6 (by omega) (by omega) (by kernel_rfl))
            refine gives_val (w' := X) (Rz.exec_extract (v := .agg (Im.cells v.g (.slice A2 (v.g).shots.length c2) v.r)) (vs := #[.agg (Im.cells v.g (.slice A2 (v.g).shots.length c2) v.r), .int .i64 0]) rfl ?_ rfl) ⟨⟨A2, c2, by simp [Rz.upd], hl⟩, hX, fun j _ _ _ h => h⟩
            simp only [Rz.putAll]
            rw [Rz.put_none, Rz.put_other (by decide), Rz.put_other (by decide), Rz.put_other (by decide), Rz.put_same (by simp only [Rz.put_size, hAs]; decide)]
            exact e
          · intro vm X hX hV
            obtain ⟨A2, c2, e, hl⟩ := stV_1 (hV 6 (by omega) (by omega) (by kernel_rfl))
            refine gives_val (w' := X) (Rz.exec_extract (v := .int .i64 0) (vs := #[.agg (Im.cells v.g (.slice A2 (v.g).shots.length c2) v.r), .int .i64 0]) rfl ?_ rfl) ⟨by simp [Rz.upd, stV], hX, fun j _ _ _ h => h⟩
            simp only [Rz.putAll]
            rw [Rz.put_none, Rz.put_other (by decide), Rz.put_other (by decide), Rz.put_other (by decide), Rz.put_same (by simp only [Rz.put_size, hAs]; decide)]
            exact e
          · intro vm X hX hV
            exact gives_val (exec_alloc_z rfl state_zero rfl) ⟨⟨_, Im.G0, none, 0, 0, Im.R0, by simp [Rz.upd], hX.size, Box.made _ _ _⟩, hX.alloc hX.size _, fun j _ _ _ h => stV_below h (one_below _ _)⟩
          · intro vm X hX hV
            obtain ⟨B, g', A', m', c', r', e4, hbB, hB⟩ := stV_4 (hV 9 (by omega) (by omega) (by kernel_rfl))
            obtain ⟨A2, c2, e2, hl⟩ := stV_2 (hV 7 (by omega) (by omega) (by kernel_rfl))
            have e4' : vm 9 = .pointer (some ⟨B, 0, none⟩) := e4
            have e2' : vm 7 = .agg (Im.cells v.g (.slice A2 (v.g).shots.length c2) v.r) := e2
            refine gives_skip (exec_store_blk (B := B) (cs := Im.cells v.g (.slice A2 (v.g).shots.length c2) v.r) rfl ?_ ?_ hB (by rw [Im.cells_size]; exact state_info) (by rw [Im.cells_size, Im.cells_size]) (state_one rfl)) ⟨⟨B, A2, c2, by simpa [Rz.upd] using e4', hbB, hB.row _, hl.state_row rfl hB _⟩, Below.setRow' hX hbB _, fun j h1 h2 h3 h => stV_row h (by omega) e4 hB⟩
            · simp only [Rz.putAll]
              rw [Rz.put_none, Rz.put_same (by simp only [Rz.put_size, hAs]; decide)]
              exact e4'
            · simp only [Rz.putAll]
              rw [Rz.put_none, Rz.put_other (by decide), Rz.put_other (by decide), Rz.put_same (by simp only [Rz.put_size, hAs]; decide)]
              exact e2'
        · intro vm X hX hV
          obtain ⟨BX, A2, c2, e4, hbB, hBX, hl⟩ := stV_5 (hV 10 (by omega) (by omega))
          have e3 := stV_3 (hV 8 (by omega) (by omega))
          clear hV
          simp only [Nat.reduceAdd] at e4 e3
          simp only [Rz.putAll, Nat.reduceAdd, e4, e3]
          generalize vm 5 = v5
          generalize vm 6 = v6
          generalize vm 7 = v7
          generalize vm 10 = v10
          have RX2 := Lib.hid (RX.out.call hX)
          have B2 := Lib.hid hBX
          have R6 := Lib.hid (RX2.out.store (g' := v.g) (s' := .slice A2 v.g.shots.length c2) (r' := v.r))
          have L6 := Lib.hid (hl.state_row rfl RX2.out.nx (Im.cells v.g (.slice A2 v.g.shots.length c2) v.r))
          clear e4 e3 hX hBX hbB HBX HAD CS RX hl
          go_wp2_with (first | ((with_reducible refine im_load_state rfl rfl ?_); apply LoadIm.mk rfl; (focus (with_reducible exact B2.out)); dsimp only) | ((with_reducible refine im_store_state rfl rfl ?_); apply StoreS.mk rfl rfl; (focus (with_reducible exact RX2.out.nx)); (focus (exact Im.cells_size _ _ _)); (focus rfl)))
          go_roundw
          case rel => exact ⟨k + 1, v, A2, c2, by omega, by go_num, HG.out, R6.out, L6.out⟩
          case measure => simp [intOf]; omega
    · have hk8 : ¬ (k : Int) < m := by omega
      obtain rfl : k = m := by omega
      have hlen : (Fd.es l).length = k := by unfold Fd.es; rw [List.length_map]; exact HM.out.symm
      have hfull : (Fd.es l).take k = Fd.es l := List.take_of_length_le (by omega)
      rw [hfull, H.out] at hch
      obtain rfl : u = t := Option.some.inj hch
      have R2 := Lib.hid hR
      have L2 := Lib.hid hL
      clear hch hR hL hlen hfull
      go_wp2_with (first | ((with_reducible refine im_load_state rfl rfl ?_); apply LoadIm.mk rfl; (focus (with_reducible exact R2.out.nx)); dsimp only) | ((with_reducible refine im_store_state rfl rfl ?_); apply StoreS.mk rfl rfl; (focus (with_reducible exact R2.out.out)); (focus (exact Im.zero_size)); (focus rfl)))
      refine bodyPost_ret (v := .tuple #[.agg (Im.cells u.g (.slice A' u.g.shots.length c') u.r), .int .i64 0]) ?_ ?_ ?_
      · exact results_cell_tmp (p := 4) (q := 5) rfl _ _ _ _ (Im.cells u.g (.slice A' u.g.shots.length c') u.r) _ rfl (Box.row R2.out.out _) Tryz.underlying35 rfl (by rw [Im.cells_size]; exact state_info)
      · rfl
      · exact ⟨A', c', rfl, L2.out.zero_row rfl R2.out.out _, Below.setRow' R2.out.below (by omega) _⟩
end Go.Proofs.YtiahpncglpfjeaaGreat
namespace Go.Proofs.YtiahpncglpfjeaaGreat
open Go Go.RowKit Go.Shelf
set_option linter.unusedVariables false
set_option linter.unusedSimpArgs false

/-- Where the rest of a slice begins. -/
def dropA (A : Option Addr) (cap k : Nat) : Option Addr := if cap - k = 0 then A else A.map fun x => x.add (k * 26)
theorem LiesS.drop {w : World} {B n c : Nat} {A : Option Addr} {l : List En.S} (h : LiesS w B A n l) (k : Nat) (hk : k ≤ n) (hc : n ≤ c) : LiesS w B (dropA A c k) (n - k) (l.drop k) := by
  have hn := h.len
  refine ⟨⟨by rw [En.sCells_len, List.length_drop, hn], fun h0 => ?_, fun ad e h0 j u hu => ?_⟩, fun q hq => h.each q (List.mem_of_mem_drop hq), fun q hq => h.few q (List.mem_of_mem_drop hq)⟩
  · obtain ⟨ad, e, hb⟩ := h.row.start (by omega)
    refine ⟨ad.add (k * 26), by unfold dropA; rw [if_neg (by omega), e]; rfl, by rw [add_block]; exact hb⟩
  · obtain ⟨ad0, e0, hb⟩ := h.row.start (by omega)
    have e1 : ad = ad0.add (k * 26) := by
      unfold dropA at e
      rw [if_neg (by omega), e0] at e
      exact (Option.some.inj e).symm
    have hj : j < (n - k) * 26 := by have := (List.getElem?_eq_some_iff.1 hu).1; rw [En.sCells_len, List.length_drop] at this; omega
    rw [e1, add_twice]
    refine h.row.cell ad0 e0 (by omega) _ u ?_
    have h1 := En.sCells_at (l.drop k) (j / 26) (j % 26) (by rw [List.length_drop]; omega) (by omega)
    have h2 := En.sCells_at l (k + j / 26) (j % 26) (by omega) (by omega)
    rw [show j / 26 * 26 + j % 26 = j by omega, hu] at h1
    rw [show (k + j / 26) * 26 + j % 26 = k * 26 + j by omega] at h2
    rw [h2, h1, List.getElem_drop]
theorem es_take (l : List En.S) (k : Nat) : (l.take k).map (·.e) = (l.map (·.e)).take k := List.map_take
theorem es_drop (l : List En.S) (k : Nat) : (l.drop k).map (·.e) = (l.map (·.e)).drop k := List.map_drop
/-- A slice from k on. -/
theorem run_slice_from {P : Program} {t : TypeId} (A : Option Addr) (len cap k : Nat) (hu : P.underlying t = some (.slice 42)) (hs : (P.info? 42).map (·.size) = some 26) (h : k ≤ len) (hc : len ≤ cap) (w : World) :
    (Instr.slice t (.slice A len cap) (some (.int .i64 (k : Int))) none none).run P w = .ok (.slice (dropA A cap k) (len - k) (cap - k)) w := by
  have h0 : (0 : Int) ≤ k := by omega
  have h1 : (k : Int) ≤ len := by omega
  cases hq : P.info? 42 with
  | none => simp [hq] at hs
  | some i =>
    have hs' : i.size = 26 := by simpa [hq] using hs
    simp [Instr.slice, run_underlying hu, Instr.sliceBounds, Instr.sliceBound, asIntOf, sizeOf, typeInfo, hq, h, dropA, hs', hc]
    by_cases hck : cap = k
    · rw [if_pos hck, if_pos (by omega)]
    · rw [if_neg hck, if_neg (by omega)]
end Go.Proofs.YtiahpncglpfjeaaGreat
namespace Go.Proofs.YtiahpncglpfjeaaGreat
open Go Go.RowKit Go.Shelf
set_option linter.unusedVariables false
set_option linter.unusedSimpArgs false

theorem exec_call2 {o : Oper} {a : Act} {w : World} {x y : Operand} {vx vy : Value} (t : Array TypeId) (ho : o.op = .call { callee := .value (.func 19), args := #[x, y], argTypes := t }) (hx : a.eval x = vx) (hy : a.eval y = vy) :
    (execOp a.eval o).run Tryz.prog w = .ok (.enter 19 #[vx, vy]) w := by
  have hf : a.eval (.func 19) = .func (.func 19) #[] #[] := rfl
  unfold execOp
  simp only [ho, resolve, List.map_toArray, List.map_cons, List.map_nil, hx, hy, hf, Sem.run_bind, Sem.run_pure, Result.andThen_ok]
  go_simp
  first | done | rfl
theorem ens_row : Tryz.prog.underlying 52 = some (.slice (Tryz.prog.elem 52)) := by kernel_rfl
theorem exec_slice_to {o : Oper} {a : Act} {w : World} {x y : Operand} {A : Option Addr} {m c k : Nat} (ho : o.op = .slice 52 x none (some y) none) (hx : a.eval x = .slice A m c) (hy : a.eval y = .int .i64 (k : Int)) (hk : k ≤ c) :
    (execOp a.eval o).run Tryz.prog w = .ok (.value (.slice A k c)) w := by
  unfold execOp
  simp only [ho, Option.map_some, Option.map_none, hx, hy, Sem.run_bind, run_sliceAt_slice w 52 _ _ _ _ ens_row, run_slice_to A m c k Tryz.underlying52 en_info26 hk, Result.andThen_ok]
  simp only [Sem.run_pure]
/-- What the region leaves, one by one. -/
def rkV (st : Value) (A1 : Option Addr) (m c1 k : Nat) (G : Gm.G) (r : Ros.R) (b : Nat) (j : Nat) (vm : Nat → Value) (w : World) : Prop :=
  match j with
  | 0 => True
  | 1 => vm 1 = st
  | 2 => vm 2 = .slice A1 m c1
  | 3 => vm 3 = .int .i64 (k : Int)
  | 4 => vm 4 = .slice A1 k c1
  | j + 5 => stV G r 0 b j (fun i => vm (5 + i)) w
section
variable {st : Value} {A1 : Option Addr} {m c1 k : Nat} {G : Gm.G} {r : Ros.R} {b j : Nat} {vm vm' : Nat → Value} {w w' : World}
theorem rkV_below (h : rkV st A1 m c1 k G r b j vm w) (hb : Below w.heap.size w w') : rkV st A1 m c1 k G r b j vm w' := by
  match j, h with
  | 0, h => exact h
  | 1, h => exact h
  | 2, h => exact h
  | 3, h => exact h
  | 4, h => exact h
  | 5, h => exact stV_below (G := G) (r := r) (code := 0) (b := b) (vm := fun i => vm (5 + i)) (k := 0) h hb
  | 6, h => exact stV_below (G := G) (r := r) (code := 0) (b := b) (vm := fun i => vm (5 + i)) (k := 1) h hb
  | 7, h => exact stV_below (G := G) (r := r) (code := 0) (b := b) (vm := fun i => vm (5 + i)) (k := 2) h hb
  | 8, h => exact stV_below (G := G) (r := r) (code := 0) (b := b) (vm := fun i => vm (5 + i)) (k := 3) h hb
  | 9, h => exact stV_below (G := G) (r := r) (code := 0) (b := b) (vm := fun i => vm (5 + i)) (k := 4) h hb
  | j + 10, h => exact stV_below (G := G) (r := r) (code := 0) (b := b) (vm := fun i => vm (5 + i)) (k := j + 5) h hb
theorem rkV_row {B : Nat} {g g' : Gm.G} {q r' : Ros.R} {A A' : Option Addr} {n n' c c' : Nat} (h : rkV st A1 m c1 k G r b j vm w) (hj : j < 10) (h4 : vm 9 = .pointer (some ⟨B, 0, none⟩)) (hB : Box w B 35 (Im.cells g (.slice A n c) q)) : rkV st A1 m c1 k G r b j vm (w.setRow B (Im.cells g' (.slice A' n' c') r')) := by
  match j, h with
  | 0, h => exact h
  | 1, h => exact h
  | 2, h => exact h
  | 3, h => exact h
  | 4, h => exact h
  | 5, h => exact stV_row (g' := g') (r' := r') (A' := A') (m' := n') (c' := c') (G := G) (r := r) (code := 0) (b := b) (vm := fun i => vm (5 + i)) (k := 0) h (by omega) h4 hB
  | 6, h => exact stV_row (g' := g') (r' := r') (A' := A') (m' := n') (c' := c') (G := G) (r := r) (code := 0) (b := b) (vm := fun i => vm (5 + i)) (k := 1) h (by omega) h4 hB
  | 7, h => exact stV_row (g' := g') (r' := r') (A' := A') (m' := n') (c' := c') (G := G) (r := r) (code := 0) (b := b) (vm := fun i => vm (5 + i)) (k := 2) h (by omega) h4 hB
  | 8, h => exact stV_row (g' := g') (r' := r') (A' := A') (m' := n') (c' := c') (G := G) (r := r) (code := 0) (b := b) (vm := fun i => vm (5 + i)) (k := 3) h (by omega) h4 hB
  | 9, h => exact stV_row (g' := g') (r' := r') (A' := A') (m' := n') (c' := c') (G := G) (r := r) (code := 0) (b := b) (vm := fun i => vm (5 + i)) (k := 4) h (by omega) h4 hB
  | j + 10, h => exact absurd hj (by omega)
theorem rkV_congr (h : rkV st A1 m c1 k G r b j vm w) (hj : j < 11) (h0 : vm j = vm' j) (h9 : j = 10 → vm 9 = vm' 9) : rkV st A1 m c1 k G r b j vm' w := by
  match j, h, h0, h9 with
  | 0, h, _, _ => exact h
  | 1, h, h0, _ => exact h0.symm.trans h
  | 2, h, h0, _ => exact h0.symm.trans h
  | 3, h, h0, _ => exact h0.symm.trans h
  | 4, h, h0, _ => exact h0.symm.trans h
  | 5, h, h0, _ => exact stV_congr (w := w) (G := G) (r := r) (code := 0) (b := b) (vm := fun i => vm (5 + i)) (vm' := fun i => vm' (5 + i)) (k := 0) h (by omega) h0 (fun e => absurd e (by decide))
  | 6, h, h0, _ => exact stV_congr (w := w) (G := G) (r := r) (code := 0) (b := b) (vm := fun i => vm (5 + i)) (vm' := fun i => vm' (5 + i)) (k := 1) h (by omega) h0 (fun e => absurd e (by decide))
  | 7, h, h0, _ => exact stV_congr (w := w) (G := G) (r := r) (code := 0) (b := b) (vm := fun i => vm (5 + i)) (vm' := fun i => vm' (5 + i)) (k := 2) h (by omega) h0 (fun e => absurd e (by decide))
  | 8, h, h0, _ => exact stV_congr (w := w) (G := G) (r := r) (code := 0) (b := b) (vm := fun i => vm (5 + i)) (vm' := fun i => vm' (5 + i)) (k := 3) h (by omega) h0 (fun e => absurd e (by decide))
  | 9, h, h0, _ => exact stV_congr (w := w) (G := G) (r := r) (code := 0) (b := b) (vm := fun i => vm (5 + i)) (vm' := fun i => vm' (5 + i)) (k := 4) h (by omega) h0 (fun e => absurd e (by decide))
  | 10, h, h0, h9 => exact stV_congr (w := w) (G := G) (r := r) (code := 0) (b := b) (vm := fun i => vm (5 + i)) (vm' := fun i => vm' (5 + i)) (k := 5) h (by omega) h0 (fun _ => h9 rfl)
  | j + 11, _, _, _ => exact absurd hj (by omega)
end
end Go.Proofs.YtiahpncglpfjeaaGreat
