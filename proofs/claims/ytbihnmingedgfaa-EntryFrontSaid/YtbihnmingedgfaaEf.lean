/-
EntryFront: a list is a beginning of itself, and of itself with more behind; with one turned it is not.
-/
import Derived.Test.YtbihnmingedgfaaEv
import Derived.Test.YtbihnmingedgfaaRj
import Derived.Test.YtbihnmingedgfaaQx
namespace En
open Go
set_option linter.unusedVariables false
theorem take_len {l : List S} {k : Nat} (h : k ≤ l.length) : (l.take k).length = k := by rw [List.length_take]; omega
theorem front_self (l : List S) : frontB l l = true := frontB_yes ⟨Nat.le_refl _, fun j h _ => Like.refl _⟩
theorem front_cut {l : List S} {k : Nat} (h : k ≤ l.length) : frontB (l.take k) l = true := frontB_yes ⟨by rw [take_len h]; exact h, fun j h1 h2 => by rw [List.getElem_take]; exact Like.refl _⟩
theorem front_back {l : List S} {k : Nat} (h : k ≤ l.length) : frontB l (l.take k) = decide (k = l.length) := by
  by_cases e : k = l.length
  · rw [decide_eq_true e]
    refine frontB_yes ⟨by rw [take_len h]; omega, fun j h1 h2 => by rw [List.getElem_take]; exact Like.refl _⟩
  · rw [decide_eq_false e]
    exact frontB_no fun hf => e (by have := hf.1; rw [take_len h] at this; omega)
theorem front_turn {l : List S} {k : Nat} (h : k < l.length) (q : S) : frontB (l.take k ++ [q]) l = likeB l[k].e q.e := by
  have hl : (l.take k).length = k := take_len (by omega)
  by_cases e : Like l[k].e q.e
  · rw [likeB_yes e]
    refine frontB_yes ⟨by rw [List.length_append, hl]; simp; omega, fun j h1 h2 => ?_⟩
    rw [List.length_append, hl] at h1
    simp only [List.length_cons, List.length_nil] at h1
    by_cases hj : j = k
    · subst hj
      rw [List.getElem_append_right (by omega)]
      simp only [hl, Nat.sub_self, List.getElem_cons_zero]
      exact e.symm
    · rw [List.getElem_append_left (by omega), List.getElem_take]
      exact Like.refl _
  · rw [likeB_no e]
    refine frontB_no fun hf => e ?_
    have := hf.2 k (by rw [List.length_append, hl]; simp) h
    rw [List.getElem_append_right (by omega)] at this
    simp only [hl, Nat.sub_self, List.getElem_cons_zero] at this
    exact this.symm
theorem front_over {l : List S} (q : S) : frontB (l ++ [q]) l = false := frontB_no fun hf => by have := hf.1; rw [List.length_append] at this; simp at this; omega
theorem sCells_take_one (l : List S) (k : Nat) (q : S) : sCells (l.take k) ++ q.cells = sCells (l.take k ++ [q]) := by
  unfold sCells
  rw [List.flatMap_append, List.flatMap_cons, List.flatMap_nil, List.append_nil]
end En
namespace Go.Proofs.Ytbihnmingedgfaa
open Go.RowKit Go.Shelf
set_option linter.unusedVariables false
set_option linter.unusedSimpArgs false

theorem en_infos : (Try.prog.info? 72).map (fun i => (i.zero, i.size, i.bytes)) = some (some (.agg En.zeroC), 26, 56) := by kernel_rfl
theorem en_parts : ∃ i, Try.prog.info? 72 = some i ∧ i.zero = some (.agg En.zeroC) ∧ i.size = 26 ∧ i.bytes = 56 := by
  have h := en_infos
  cases hq : Try.prog.info? 72 with
  | none => rw [hq] at h; cases h
  | some i =>
    rw [hq] at h
    simp only [Option.map_some, Option.some.injEq, Prod.mk.injEq] at h
    exact ⟨i, rfl, h.1, h.2.1, h.2.2⟩
theorem quiet_en {B0 : Nat} {W : World} {o : Oper} {a : Act} {K : Act → Prop} {B : Nat} {e : En.E} {s : Value} {x : Operand} (ho : o.op = .load 72 x) (hx : a.eval x = .pointer (some ⟨B, 0, none⟩)) (hB : ∀ q : Ext B0 W, Box q.w B 72 (En.cells e s)) (h : K (a.put o.dst (.agg (En.cells e s)))) :
    o.quiet Try.prog a (fun w' => ∃ q : Ext B0 W, w' = q.w) K :=
  ⟨_, fun w hw => by obtain ⟨q, e'⟩ := hw; subst e'; unfold Oper.quietAt; rw [exec_load_blk ho hx (hB q) Try.underlying72 rfl en_info]; exact ⟨rfl, rfl⟩, h⟩
theorem quiet_at {B0 : Nat} {W : World} {o : Oper} {a : Act} {K : Act → Prop} {ad : Addr} {u : En.S} {x : Operand} (ho : o.op = .load 72 x) (hx : a.eval x = .pointer (some ad)) (hB : ∀ q : Ext B0 W, ∀ j v, u.cells[j]? = some v → q.w.cell? (ad.add j) = some v) (h : K (a.put o.dst (.agg (En.cells u.e u.sl)))) :
    o.quiet Try.prog a (fun w' => ∃ q : Ext B0 W, w' = q.w) K :=
  ⟨_, fun w hw => by obtain ⟨q, e'⟩ := hw; subst e'; unfold Oper.quietAt; rw [exec_load_any ho hx (hB q) Try.underlying72 rfl (by rw [En.S.cells_len]; exact en_info), En.S.cells_arr]; exact ⟨rfl, rfl⟩, h⟩
theorem exec_load_en {o : Oper} {a : Act} {w : World} {x : Operand} {B : Nat} {e : En.E} {s : Value} (ho : o.op = .load 72 x) (hx : a.eval x = .pointer (some ⟨B, 0, none⟩)) (hB : Box w B 72 (En.cells e s)) :
    (execOp a.eval o).run Try.prog w = .ok (.value (.agg (En.cells e s))) w := exec_load_blk ho hx hB Try.underlying72 rfl en_info
theorem exec_slice_en {o : Oper} {a : Act} {w : World} {x : Operand} {e : En.E} {s : Value} (ho : o.op = .buildSlice 85 1 #[(0, x)]) (hx : a.eval x = .agg (En.cells e s)) :
    (execOp a.eval o).run Try.prog w = .ok (.value (.slice (some ⟨w.heap.size, 0, none⟩) 1 1)) (w.alloc (.cells (En.cells e s) 72)) := by
  have hr := en_slice e s w
  unfold execOp
  simp only [ho, List.map_toArray, List.map_cons, List.map_nil, hx, Sem.run_bind, hr, Result.andThen_ok, Sem.run_pure]
theorem en_slice0 (W : World) : (Instr.buildSlice 85 0 #[]).run Try.prog W = .ok (.slice (some ⟨W.heap.size, 0, none⟩) 0 0) (W.alloc (.cells #[] 72)) := by
  have h1 := en_info
  have h2 := en_zero
  cases hq : Try.prog.info? 72 with
  | none => rw [hq] at h1; cases h1
  | some ie =>
    rw [hq] at h1 h2
    have hs : ie.size = 26 := by simpa using h1
    have hz : ie.zero = some (.agg En.zeroC) := by simpa using h2
    simp [Instr.buildSlice, run_underlying (Try.underlying85) W, sizeOf, typeInfo, zeroValue, hq, hs, hz, Instr.fill, newRow]
    rw [show Array.range 0 = #[] from by simp]
    simp
theorem exec_slice_en0 {o : Oper} {a : Act} {w : World} (ho : o.op = .buildSlice 85 0 #[]) :
    (execOp a.eval o).run Try.prog w = .ok (.value (.slice (some ⟨w.heap.size, 0, none⟩) 0 0)) (w.alloc (.cells #[] 72)) := by
  have hr := en_slice0 w
  unfold execOp
  simp only [ho, List.map_toArray, List.map_nil, Sem.run_bind, hr, Result.andThen_ok, Sem.run_pure]
theorem exec_slice_to {P : Program} {o : Oper} {a : Act} {w : World} {t e : TypeId} {x y : Operand} {sz len cap n : Nat} {A : Option Addr} (ho : o.op = .slice t x none (some y) none) (hx : a.eval x = .slice A len cap) (hy : a.eval y = .int .i64 (n : Int)) (hu : P.underlying t = some (.slice e)) (hs : (P.info? e).map (·.size) = some sz) (h : n ≤ cap) :
    (execOp a.eval o).run P w = .ok (.value (.slice A n cap)) w := by
  have hr := run_slice_to A len cap n hu hs h w
  unfold execOp
  simp [ho, hx, hy, Instr.sliceAt, Sem.run_bind, run_underlying hu, hr]
/-- A row is appended to one of our own. -/
theorem exec_append_own {P : Program} {o : Oper} {a : Act} {w : World} {t e : TypeId} {i : TypeInfo} {z : Value} {size bytes : Nat} {x y : Operand} {v : Value} {base n : Nat} {xs : List Value} {A : Option Addr} {m c : Nat} {news : List Value}
    (ho : o.op = .call { callee := .builtin .append, args := #[x, y], argTypes := #[t, t] }) (hx : a.eval x = v) (hy : a.eval y = .slice A m c) (ht : P.underlying t = some (.slice e)) (hi : P.info? e = some i) (hz : i.zero = some z) (hs : i.size = size) (hby : i.bytes = bytes) (hzs : z.cells.size = size) (hsz : 0 < size)
    (hown : w.ownsRow base e size v n xs) (hl : Lies w w.heap.size size A m news) (h1 : ∀ u ∈ news, u.oneCell' = true) (h63 : n + m ≤ maxLen) (hb47 : (n + m) * bytes ≤ 140737488355328) (hbase : base ≤ w.heap.size) :
    ∃ A' c' w', (execOp a.eval o).run P w = .ok (.value (.slice A' (n + m) c')) w' ∧ w'.ownsRow base e size (.slice A' (n + m) c') (n + m) (xs ++ news) ∧ w.grownBy w' v.ownBlock ∧ ((Value.slice A' (n + m) c').ownBlock = v.ownBlock ∨ (Value.slice A' (n + m) c').ownBlock = some w.heap.size) := by
  have hrun : ∃ v' w', (Builtin.append_ #[t, t] o.type #[v, .slice A m c]).run P w = .ok v' w' ∧ w'.ownsRow base e size v' (n + m) (xs ++ news) ∧ w.grownBy w' v.ownBlock ∧ (v'.ownBlock = v.ownBlock ∨ v'.ownBlock = some w.heap.size) := by
    cases A with
    | none =>
      have hm : m = 0 := by
        by_cases hm : m = 0
        · exact hm
        · obtain ⟨ad, he, _⟩ := hl.start hm
          cases he
      subst hm
      have hn : news = [] := List.eq_nil_of_length_eq_zero (by simpa using hl.len)
      subst hn
      exact ⟨_, w, append_nothing w ht hi hown c, by simpa using hown, World.grownBy.refl w _, .inl rfl⟩
    | some ad =>
      have hcells : ∀ j u, news[j]? = some u → w.cell? (ad.add j) = some u := fun j u hu => by
        by_cases hm : m = 0
        · subst hm
          have hn : news = [] := List.eq_nil_of_length_eq_zero (by simpa using hl.len)
          subst hn
          simp at hu
        · exact hl.cell ad rfl hm j u hu
      obtain ⟨v', w', hr, h2, h3, _, h5⟩ := run_append_own_at (P := P) w base t o.type e i z size bytes ht hi hz hs hby hzs hsz _ n xs hown ad m c news hl.len hcells h1 h63 hb47 hbase
      exact ⟨v', w', hr, h2, h3, h5⟩
  obtain ⟨v', w', hr, h2, h3, h5⟩ := hrun
  obtain ⟨A', c', rfl⟩ := owned_slice h2
  refine ⟨A', c', w', ?_, h2, h3, h5⟩
  unfold execOp
  simp only [ho, resolve, invoke, builtin, Sem.run_bind, Sem.run_pure, Result.andThen_ok, List.map_toArray, List.map_cons, List.map_nil, hx, hy, hr]
theorem below_grew {B : Nat} {w0 w w' : World} {row : Option Nat} (h : Below B w0 w) (hg : w.grownBy w' row) (hr : ∀ r, row = some r → B ≤ r) (hB : B ≤ w0.heap.size) : Below B w0 w' :=
  ⟨hg.os.trans h.os, hg.tape.trans h.tape, hg.output.trans h.output, Nat.le_trans h.size hg.size, fun i hi => (hg.block i (Nat.lt_of_lt_of_le hi (Nat.le_trans hB h.size)) (fun e => by have := hr i e.symm; omega)).trans (h.block i hi)⟩
theorem own_from {w : World} {base : Nat} {e : TypeId} {size n : Nat} {v : Value} {xs : List Value} (h : w.ownsRow base e size v n xs) : ∀ r, v.ownBlock = some r → base ≤ r := fun r hr => by
  obtain ⟨_, ⟨rfl, _⟩ | ⟨g, cap, cur, rfl, hbg, _⟩⟩ := h
  · cases hr
  · have e' : g = r := by injection hr
    omega
theorem gives_append {P : Program} {o : Oper} {a : Act} {w : World} {t e : TypeId} {i : TypeInfo} {z : Value} {size bytes : Nat} {x y : Operand} {v : Value} {base n : Nat} {xs : List Value} {A : Option Addr} {m c : Nat} {news : List Value} {R : Value → World → Prop}
    (ho : o.op = .call { callee := .builtin .append, args := #[x, y], argTypes := #[t, t] }) (hx : a.eval x = v) (hy : a.eval y = .slice A m c) (ht : P.underlying t = some (.slice e)) (hi : P.info? e = some i) (hz : i.zero = some z) (hs : i.size = size) (hby : i.bytes = bytes) (hzs : z.cells.size = size) (hsz : 0 < size)
    (hown : w.ownsRow base e size v n xs) (hl : Lies w w.heap.size size A m news) (h1 : ∀ u ∈ news, u.oneCell' = true) (h63 : n + m ≤ maxLen) (hb47 : (n + m) * bytes ≤ 140737488355328) (hbase : base ≤ w.heap.size)
    (h : ∀ A' c' w', w'.ownsRow base e size (.slice A' (n + m) c') (n + m) (xs ++ news) → w.grownBy w' v.ownBlock → ((Value.slice A' (n + m) c').ownBlock = v.ownBlock ∨ (Value.slice A' (n + m) c').ownBlock = some w.heap.size) → R (.slice A' (n + m) c') w') : Rz.Gives P o a w R := by
  obtain ⟨A', c', w', hr, h2, h3, h5⟩ := exec_append_own ho hx hy ht hi hz hs hby hzs hsz hown hl h1 h63 hb47 hbase
  exact gives_val hr (h A' c' w' h2 h3 h5)
theorem own_apart {w : World} {base n : Nat} {e : TypeId} {size : Nat} {v : Value} {xs : List Value} (h : w.ownsRow base e size v n xs) : v.ownBlock ≠ some w.heap.size := by
  obtain ⟨_, ⟨rfl, _⟩ | ⟨g, cap, cur, rfl, _, hg, _⟩⟩ := h
  · intro h; cases h
  · intro he
    have e' : g = w.heap.size := by injection he
    have := (Array.getElem?_eq_some_iff.1 hg).1
    omega

/-- What stands behind the acts of 'append(append([]T{}, l[:k]...), e)', as far as they have been. -/
structure FrD (l : List En.S) (k : Nat) (q : En.S) (base : Nat) (S : Nat → Bool) (vm : Nat → Value) (w : World) : Prop where
  a0 : S 0 = true → S 4 = false → w.ownsRow base 72 26 (vm 0) 0 []
  a4 : S 4 = true → S 7 = false → w.ownsRow base 72 26 (vm 4) k (En.sCells (l.take k))
  a6 : S 6 = true → S 7 = false → ∃ X : Nat, vm 6 = .slice (some ⟨X, 0, none⟩) 1 1 ∧ Box w X 72 (En.cells q.e q.sl) ∧ (S 0 = true → S 4 = false → (vm 0).ownBlock ≠ some X) ∧ (S 4 = true → (vm 4).ownBlock ≠ some X)
  a7 : S 7 = true → w.ownsRow base 72 26 (vm 7) (k + 1) (En.sCells (l.take k ++ [q]))
  a8 : S 7 = true → S 4 = true
section
variable {l : List En.S} {k : Nat} {q : En.S} {base : Nat} {S : Nat → Bool} {vm vm' : Nat → Value} {w w' : World}
theorem FrD.start : FrD l k q base (fun _ => false) vm w := ⟨fun h => (by cases h), fun h => (by cases h), fun h => (by cases h), fun h => (by cases h), fun h => (by cases h)⟩
theorem FrD.congr (h : FrD l k q base S vm w) (he : ∀ j, 0 ≤ j → vm j = vm' j) : FrD l k q base S vm' w := by
  have : vm = vm' := funext fun j => he j (Nat.zero_le _)
  rw [← this]; exact h
theorem FrD.skip (h : FrD l k q base S vm w) (i : Nat) (hi : i = 1 ∨ i = 2 ∨ i = 3 ∨ i = 5) (v : Value) : FrD l k q base (Rj.also S i) (Rz.upd vm i v) w := by
  have eS : ∀ j, j = 0 ∨ j = 4 ∨ j = 6 ∨ j = 7 → Rj.also S i j = S j ∧ Rz.upd vm i v j = vm j := fun j hj => by
    have hne : j ≠ i := by omega
    have hb : (j == i) = false := by simpa using hne
    exact ⟨by unfold Rj.also; rw [hb, Bool.or_false], by unfold Rz.upd; rw [if_neg hne]⟩
  obtain ⟨s0, v0⟩ := eS 0 (by omega)
  obtain ⟨s4, v4⟩ := eS 4 (by omega)
  obtain ⟨s6, v6⟩ := eS 6 (by omega)
  obtain ⟨s7, v7⟩ := eS 7 (by omega)
  refine ⟨?_, ?_, ?_, ?_, ?_⟩
  · rw [s0, s4, v0]; exact h.a0
  · rw [s4, s7, v4]; exact h.a4
  · rw [s6, s7, s0, s4, v6, v0, v4]; exact h.a6
  · rw [s7, v7]; exact h.a7
  · rw [s7, s4]; exact h.a8
theorem FrD.op0 (h : FrD l k q base S vm w) (hb : base ≤ w.heap.size) (h0 : S 0 = false) : FrD l k q base (Rj.also S 0) (Rz.upd vm 0 (.slice (some ⟨w.heap.size, 0, none⟩) 0 0)) (w.alloc (.cells #[] 72)) := by
  have hB := one_below w (.cells #[] 72)
  refine ⟨fun _ _ => ?_, fun h4 h7 => ?_, fun h6 h7 => ?_, fun h7 => ?_, fun h7 => ?_⟩
  · exact World.ownsRow_lit (base := base) (e := 72) (size := 26) w #[] 0 hb (Nat.zero_le _) rfl
  · exact own_below (h.a4 (by simpa [Rj.also] using h4) (by simpa [Rj.also] using h7)) hB (Nat.le_refl _)
  · obtain ⟨X, e, hX, _, h4⟩ := h.a6 (by simpa [Rj.also] using h6) (by simpa [Rj.also] using h7)
    refine ⟨X, e, hX.alloc _, fun _ _ he => ?_, fun hh => h4 (by simpa [Rj.also] using hh)⟩
    have e' : w.heap.size = X := by injection he
    have := hX.lt
    omega
  · exact own_below (h.a7 (by simpa [Rj.also] using h7)) hB (Nat.le_refl _)
  · simpa [Rj.also] using h.a8 (by simpa [Rj.also] using h7)
theorem FrD.op6 (h : FrD l k q base S vm w) : FrD l k q base (Rj.also S 6) (Rz.upd vm 6 (.slice (some ⟨w.heap.size, 0, none⟩) 1 1)) (w.alloc (.cells (En.cells q.e q.sl) 72)) := by
  have hB := one_below w (.cells (En.cells q.e q.sl) 72)
  refine ⟨fun h0 h4 => ?_, fun h4 h7 => ?_, fun h6 h7 => ?_, fun h7 => ?_, fun h7 => ?_⟩
  · exact own_below (h.a0 (by simpa [Rj.also] using h0) (by simpa [Rj.also] using h4)) hB (Nat.le_refl _)
  · exact own_below (h.a4 (by simpa [Rj.also] using h4) (by simpa [Rj.also] using h7)) hB (Nat.le_refl _)
  · refine ⟨w.heap.size, rfl, Box.made _ _ _, fun h0 h4 => ?_, fun h4 => ?_⟩
    · exact own_apart (h.a0 (by simpa [Rj.also] using h0) (by simpa [Rj.also] using h4))
    · exact own_apart (h.a4 (by simpa [Rj.also] using h4) (by simpa [Rj.also] using h7))
  · exact own_below (h.a7 (by simpa [Rj.also] using h7)) hB (Nat.le_refl _)
  · simpa [Rj.also] using h.a8 (by simpa [Rj.also] using h7)
theorem FrD.op4 (h : FrD l k q base S vm w) {A : Option Addr} {c : Nat} (h4 : S 4 = false) (h0 : S 0 = true) (ho : w'.ownsRow base 72 26 (.slice A k c) k (En.sCells (l.take k))) (hg : w.grownBy w' (vm 0).ownBlock) (hn : (Value.slice A k c).ownBlock = (vm 0).ownBlock ∨ (Value.slice A k c).ownBlock = some w.heap.size) :
    FrD l k q base (Rj.also S 4) (Rz.upd vm 4 (.slice A k c)) w' := by
  have h7 : S 7 = false := by cases h7 : S 7 with | false => rfl | true => have := h.a8 h7; rw [h4] at this; cases this
  refine ⟨fun _ hh => ?_, fun _ _ => ho, fun h6 _ => ?_, fun hh => ?_, fun hh => ?_⟩
  · simp [Rj.also] at hh
  · obtain ⟨X, e, hX, hne, _⟩ := h.a6 (by simpa [Rj.also] using h6) h7
    refine ⟨X, e, hX.grown hg (hne h0 h4), fun _ hh => by simp [Rj.also] at hh, fun _ he => ?_⟩
    have he' : (Value.slice A k c).ownBlock = some X := he
    rcases hn with hn | hn
    · exact hne h0 h4 (hn ▸ he')
    · rw [hn] at he'
      have e' : w.heap.size = X := by injection he'
      have := hX.lt
      omega
  · have : S 7 = true := by simpa [Rj.also] using hh
    rw [h7] at this; cases this
  · simp [Rj.also]
theorem FrD.op7 (h : FrD l k q base S vm w) {v : Value} (h7 : S 7 = false) (h4 : S 4 = true) (ho : w'.ownsRow base 72 26 v (k + 1) (En.sCells (l.take k ++ [q]))) : FrD l k q base (Rj.also S 7) (Rz.upd vm 7 v) w' := by
  refine ⟨fun _ hh => ?_, fun _ hh => ?_, fun _ hh => ?_, fun _ => ho, fun _ => ?_⟩
  · have : S 4 = false := by simpa [Rj.also] using hh
    rw [h4] at this; cases this
  · simp [Rj.also] at hh
  · simp [Rj.also] at hh
  · simp [Rj.also, h4]
end
/-- The numbers and slices that the acts hand on. -/
def frV (A : Option Addr) (n c k : Nat) (q : En.S) (j : Nat) (vm : Nat → Value) : Prop :=
  match j with
  | 1 => vm 1 = .slice A n c
  | 2 => vm 2 = .int .i64 (k : Int)
  | 3 => vm 3 = .slice A k c
  | 5 => vm 5 = .agg (En.cells q.e q.sl)
  | _ => True
theorem frV_congr {A : Option Addr} {n c k j : Nat} {q : En.S} {vm vm' : Nat → Value} (h : frV A n c k q j vm) (he : vm j = vm' j) : frV A n c k q j vm' := by
  unfold frV at *
  split at h <;> first | (rw [← he]; exact h) | trivial
theorem LiesS.snoc {w : World} {l : List En.S} {k : Nat} {A : Option Addr} {q : En.S} (hk : k ≤ l.length) (hr : Lies w w.heap.size 26 A (k + 1) (En.sCells (l.take k ++ [q]))) (he : ∀ u ∈ l, Lies w w.heap.size 4 u.adr u.e.evs.length (En.evCells u.e.evs)) (hf : ∀ u ∈ l, u.e.evs.length ≤ maxLen) (hq : Lies w w.heap.size 4 q.adr q.e.evs.length (En.evCells q.e.evs)) (hqf : q.e.evs.length ≤ maxLen) : LiesS w w.heap.size A (k + 1) (l.take k ++ [q]) := by
  refine ⟨hr, fun u hu => ?_, fun u hu => ?_⟩
  · rcases List.mem_append.1 hu with hu | hu
    · exact he u (List.mem_of_mem_take hu)
    · rw [List.mem_singleton.1 hu]; exact hq
  · rcases List.mem_append.1 hu with hu | hu
    · exact hf u (List.mem_of_mem_take hu)
    · rw [List.mem_singleton.1 hu]; exact hqf
end Go.Proofs.Ytbihnmingedgfaa
