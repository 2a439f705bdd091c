/-
Several texts in one: Ef Ei Eg.
-/
import Derived.Test.YtghomofakpjglaaWn6
namespace En
open Go
set_option linter.unusedVariables false
theorem take_len {l : List S} {k : Nat} (h : k ≤ l.length) : (l.take k).length = k := by rw [List.length_take]; omega
theorem front_self (l : List S) : frontB l l = true := frontB_yes ⟨Nat.le_refl _, fun j h _ => Like.refl _⟩
theorem front_cut {l : List S} {k : Nat} (h : k ≤ l.length) : frontB (l.take k) l = true := frontB_yes ⟨by rw [take_len h]; exact h, fun j h1 h2 => by rw [List.getElem_take]; exact Like.refl _⟩
theorem front_back {l : List S} {k : Nat} (h : k ≤ l.length) : frontB l (l.take k) = decide (k = l.length) := by
  by_cases e : k = l.length
  · rw [decide_eq_true e]
    refine frontB_yes ⟨by rw [take_len h]; omega, fun j h1 h2 => by rw [List.getElem_take]; exact Like.refl _⟩
  · rw [decide_eq_false e]
    exact frontB_no fun hf => e (by have := hf.1; rw [take_len h] at this; omega)
theorem front_turn {l : List S} {k : Nat} (h : k < l.length) (q : S) : frontB (l.take k ++ [q]) l = likeB l[k].e q.e := by
  have hl : (l.take k).length = k := take_len (by omega)
  by_cases e : Like l[k].e q.e
  · rw [likeB_yes e]
    refine frontB_yes ⟨by rw [List.length_append, hl]; simp; omega, fun j h1 h2 => ?_⟩
    rw [List.length_append, hl] at h1
    simp only [List.length_cons, List.length_nil] at h1
    by_cases hj : j = k
    · subst hj
      rw [List.getElem_append_right (by omega)]
      simp only [hl, Nat.sub_self, List.getElem_cons_zero]
      exact e.symm
    · rw [List.getElem_append_left (by omega), List.getElem_take]
      exact Like.refl _
  · rw [likeB_no e]
    refine frontB_no fun hf => e ?_
    have := hf.2 k (by rw [List.length_append, hl]; simp) h
    rw [List.getElem_append_right (by omega)] at this
    simp only [hl, Nat.sub_self, List.getElem_cons_zero] at this
    exact this.symm
theorem front_over {l : List S} (q : S) : frontB (l ++ [q]) l = false := frontB_no fun hf => by have := hf.1; rw [List.length_append] at this; simp at this; omega
theorem sCells_take_one (l : List S) (k : Nat) (q : S) : sCells (l.take k) ++ q.cells = sCells (l.take k ++ [q]) := by
  unfold sCells
  rw [List.flatMap_append, List.flatMap_cons, List.flatMap_nil, List.append_nil]
end En
namespace Go.Proofs.Ytghomofakpjglaa
open Go.RowKit Go.Shelf
set_option linter.unusedVariables false
set_option linter.unusedSimpArgs false

theorem en_infos : (Try.prog.info? 60).map (fun i => (i.zero, i.size, i.bytes)) = some (some (.agg En.zeroC), 26, 56) := by kernel_rfl
theorem en_parts : ∃ i, Try.prog.info? 60 = some i ∧ i.zero = some (.agg En.zeroC) ∧ i.size = 26 ∧ i.bytes = 56 := by
  have h := en_infos
  cases hq : Try.prog.info? 60 with
  | none => rw [hq] at h; cases h
  | some i =>
    rw [hq] at h
    simp only [Option.map_some, Option.some.injEq, Prod.mk.injEq] at h
    exact ⟨i, rfl, h.1, h.2.1, h.2.2⟩
theorem quiet_en {B0 : Nat} {W : World} {o : Oper} {a : Act} {K : Act → Prop} {B : Nat} {e : En.E} {s : Value} {x : Operand} (ho : o.op = .load 60 x) (hx : a.eval x = .pointer (some ⟨B, 0, none⟩)) (hB : ∀ q : Ext B0 W, Box q.w B 60 (En.cells e s)) (h : K (a.put o.dst (.agg (En.cells e s)))) :
    o.quiet Try.prog a (fun w' => ∃ q : Ext B0 W, w' = q.w) K :=
  ⟨_, fun w hw => by obtain ⟨q, e'⟩ := hw; subst e'; unfold Oper.quietAt; rw [exec_load_blk ho hx (hB q) Try.underlying60 rfl en_info]; exact ⟨rfl, rfl⟩, h⟩
theorem quiet_at {B0 : Nat} {W : World} {o : Oper} {a : Act} {K : Act → Prop} {ad : Addr} {u : En.S} {x : Operand} (ho : o.op = .load 60 x) (hx : a.eval x = .pointer (some ad)) (hB : ∀ q : Ext B0 W, ∀ j v, u.cells[j]? = some v → q.w.cell? (ad.add j) = some v) (h : K (a.put o.dst (.agg (En.cells u.e u.sl)))) :
    o.quiet Try.prog a (fun w' => ∃ q : Ext B0 W, w' = q.w) K :=
  ⟨_, fun w hw => by obtain ⟨q, e'⟩ := hw; subst e'; unfold Oper.quietAt; rw [exec_load_any ho hx (hB q) Try.underlying60 rfl (by rw [En.S.cells_len]; exact en_info), En.S.cells_arr]; exact ⟨rfl, rfl⟩, h⟩
theorem exec_load_en {o : Oper} {a : Act} {w : World} {x : Operand} {B : Nat} {e : En.E} {s : Value} (ho : o.op = .load 60 x) (hx : a.eval x = .pointer (some ⟨B, 0, none⟩)) (hB : Box w B 60 (En.cells e s)) :
    (execOp a.eval o).run Try.prog w = .ok (.value (.agg (En.cells e s))) w := exec_load_blk ho hx hB Try.underlying60 rfl en_info
theorem exec_slice_en {o : Oper} {a : Act} {w : World} {x : Operand} {e : En.E} {s : Value} (ho : o.op = .buildSlice 73 1 #[(0, x)]) (hx : a.eval x = .agg (En.cells e s)) :
    (execOp a.eval o).run Try.prog w = .ok (.value (.slice (some ⟨w.heap.size, 0, none⟩) 1 1)) (w.alloc (.cells (En.cells e s) 60)) := by
  have hr := en_slice e s w
  unfold execOp
  simp only [ho, List.map_toArray, List.map_cons, List.map_nil, hx, Sem.run_bind, hr, Result.andThen_ok, Sem.run_pure]
theorem en_slice0 (W : World) : (Instr.buildSlice 73 0 #[]).run Try.prog W = .ok (.slice (some ⟨W.heap.size, 0, none⟩) 0 0) (W.alloc (.cells #[] 60)) := by
  have h1 := en_info
  have h2 := en_zero
  cases hq : Try.prog.info? 60 with
  | none => rw [hq] at h1; cases h1
  | some ie =>
    rw [hq] at h1 h2
    have hs : ie.size = 26 := by simpa using h1
    have hz : ie.zero = some (.agg En.zeroC) := by simpa using h2
    simp [Instr.buildSlice, run_underlying (Try.underlying73) W, sizeOf, typeInfo, zeroValue, hq, hs, hz, Instr.fill, newRow]
    rw [show Array.range 0 = #[] from by simp]
    simp
theorem exec_slice_en0 {o : Oper} {a : Act} {w : World} (ho : o.op = .buildSlice 73 0 #[]) :
    (execOp a.eval o).run Try.prog w = .ok (.value (.slice (some ⟨w.heap.size, 0, none⟩) 0 0)) (w.alloc (.cells #[] 60)) := by
  have hr := en_slice0 w
  unfold execOp
  simp only [ho, List.map_toArray, List.map_nil, Sem.run_bind, hr, Result.andThen_ok, Sem.run_pure]
theorem exec_slice_to {P : Program} {o : Oper} {a : Act} {w : World} {t e : TypeId} {x y : Operand} {sz len cap n : Nat} {A : Option Addr} (ho : o.op = .slice t x none (some y) none) (hx : a.eval x = .slice A len cap) (hy : a.eval y = .int .i64 (n : Int)) (hu : P.underlying t = some (.slice e)) (hs : (P.info? e).map (·.size) = some sz) (h : n ≤ cap) :
    (execOp a.eval o).run P w = .ok (.value (.slice A n cap)) w := by
  have hr := run_slice_to A len cap n hu hs h w
  unfold execOp
  simp [ho, hx, hy, Instr.sliceAt, Sem.run_bind, run_underlying hu, hr]
/-- A row is appended to one of our own. -/
theorem exec_append_own {P : Program} {o : Oper} {a : Act} {w : World} {t e : TypeId} {i : TypeInfo} {z : Value} {size bytes : Nat} {x y : Operand} {v : Value} {base n : Nat} {xs : List Value} {A : Option Addr} {m c : Nat} {news : List Value}
    (ho : o.op = .call { callee := .builtin .append, args := #[x, y], argTypes := #[t, t] }) (hx : a.eval x = v) (hy : a.eval y = .slice A m c) (ht : P.underlying t = some (.slice e)) (hi : P.info? e = some i) (hz : i.zero = some z) (hs : i.size = size) (hby : i.bytes = bytes) (hzs : z.cells.size = size) (hsz : 0 < size)
    (hown : w.ownsRow base e size v n xs) (hl : Lies w w.heap.size size A m news) (h1 : ∀ u ∈ news, u.oneCell' = true) (h63 : n + m ≤ maxLen) (hb47 : (n + m) * bytes ≤ 140737488355328) (hbase : base ≤ w.heap.size) :
    ∃ A' c' w', (execOp a.eval o).run P w = .ok (.value (.slice A' (n + m) c')) w' ∧ w'.ownsRow base e size (.slice A' (n + m) c') (n + m) (xs ++ news) ∧ w.grownBy w' v.ownBlock ∧ ((Value.slice A' (n + m) c').ownBlock = v.ownBlock ∨ (Value.slice A' (n + m) c').ownBlock = some w.heap.size) := by
  have hrun : ∃ v' w', (Builtin.append_ #[t, t] o.type #[v, .slice A m c]).run P w = .ok v' w' ∧ w'.ownsRow base e size v' (n + m) (xs ++ news) ∧ w.grownBy w' v.ownBlock ∧ (v'.ownBlock = v.ownBlock ∨ v'.ownBlock = some w.heap.size) := by
    cases A with
    | none =>
      have hm : m = 0 := by
        by_cases hm : m = 0
        · exact hm
        · obtain ⟨ad, he, _⟩ := hl.start hm
          cases he
      subst hm
      have hn : news = [] := List.eq_nil_of_length_eq_zero (by simpa using hl.len)
      subst hn
      exact ⟨_, w, append_nothing w ht hi hown c, by simpa using hown, World.grownBy.refl w _, .inl rfl⟩
    | some ad =>
      have hcells : ∀ j u, news[j]? = some u → w.cell? (ad.add j) = some u := fun j u hu => by
        by_cases hm : m = 0
        · subst hm
          have hn : news = [] := List.eq_nil_of_length_eq_zero (by simpa using hl.len)
          subst hn
          simp at hu
        · exact hl.cell ad rfl hm j u hu
      obtain ⟨v', w', hr, h2, h3, _, h5⟩ := run_append_own_at (P := P) w base t o.type e i z size bytes ht hi hz hs hby hzs hsz _ n xs hown ad m c news hl.len hcells h1 h63 hb47 hbase
      exact ⟨v', w', hr, h2, h3, h5⟩
  obtain ⟨v', w', hr, h2, h3, h5⟩ := hrun
  obtain ⟨A', c', rfl⟩ := owned_slice h2
  refine ⟨A', c', w', ?_, h2, h3, h5⟩
  unfold execOp
  simp only [ho, resolve, invoke, builtin, Sem.run_bind, Sem.run_pure, Result.andThen_ok, List.map_toArray, List.map_cons, List.map_nil, hx, hy, hr]
theorem below_grew {B : Nat} {w0 w w' : World} {row : Option Nat} (h : Below B w0 w) (hg : w.grownBy w' row) (hr : ∀ r, row = some r → B ≤ r) (hB : B ≤ w0.heap.size) : Below B w0 w' :=
  ⟨hg.os.trans h.os, hg.tape.trans h.tape, hg.output.trans h.output, Nat.le_trans h.size hg.size, fun i hi => (hg.block i (Nat.lt_of_lt_of_le hi (Nat.le_trans hB h.size)) (fun e => by have := hr i e.symm; omega)).trans (h.block i hi)⟩
theorem own_from {w : World} {base : Nat} {e : TypeId} {size n : Nat} {v : Value} {xs : List Value} (h : w.ownsRow base e size v n xs) : ∀ r, v.ownBlock = some r → base ≤ r := fun r hr => by
  obtain ⟨_, ⟨rfl, _⟩ | ⟨g, cap, cur, rfl, hbg, _⟩⟩ := h
  · cases hr
  · have e' : g = r := by injection hr
    omega
theorem gives_append {P : Program} {o : Oper} {a : Act} {w : World} {t e : TypeId} {i : TypeInfo} {z : Value} {size bytes : Nat} {x y : Operand} {v : Value} {base n : Nat} {xs : List Value} {A : Option Addr} {m c : Nat} {news : List Value} {R : Value → World → Prop}
    (ho : o.op = .call { callee := .builtin .append, args := #[x, y], argTypes := #[t, t] }) (hx : a.eval x = v) (hy : a.eval y = .slice A m c) (ht : P.underlying t = some (.slice e)) (hi : P.info? e = some i) (hz : i.zero = some z) (hs : i.size = size) (hby : i.bytes = bytes) (hzs : z.cells.size = size) (hsz : 0 < size)
    (hown : w.ownsRow base e size v n xs) (hl : Lies w w.heap.size size A m news) (h1 : ∀ u ∈ news, u.oneCell' = true) (h63 : n + m ≤ maxLen) (hb47 : (n + m) * bytes ≤ 140737488355328) (hbase : base ≤ w.heap.size)
    (h : ∀ A' c' w', w'.ownsRow base e size (.slice A' (n + m) c') (n + m) (xs ++ news) → w.grownBy w' v.ownBlock → ((Value.slice A' (n + m) c').ownBlock = v.ownBlock ∨ (Value.slice A' (n + m) c').ownBlock = some w.heap.size) → R (.slice A' (n + m) c') w') : Rz.Gives P o a w R := by
  obtain ⟨A', c', w', hr, h2, h3, h5⟩ := exec_append_own ho hx hy ht hi hz hs hby hzs hsz hown hl h1 h63 hb47 hbase
  exact gives_val hr (h A' c' w' h2 h3 h5)
theorem own_apart {w : World} {base n : Nat} {e : TypeId} {size : Nat} {v : Value} {xs : List Value} (h : w.ownsRow base e size v n xs) : v.ownBlock ≠ some w.heap.size := by
  obtain ⟨_, ⟨rfl, _⟩ | ⟨g, cap, cur, rfl, _, hg, _⟩⟩ := h
  · intro h; cases h
  · intro he
    have e' : g = w.heap.size := by injection he
    have := (Array.getElem?_eq_some_iff.1 hg).1
    omega

/-- What stands behind the acts of 'append(append([]T{}, l[:k]...), e)', as far as they have been. -/
structure FrD (l : List En.S) (k : Nat) (q : En.S) (base : Nat) (S : Nat → Bool) (vm : Nat → Value) (w : World) : Prop where
  a0 : S 0 = true → S 4 = false → w.ownsRow base 60 26 (vm 0) 0 []
  a4 : S 4 = true → S 7 = false → w.ownsRow base 60 26 (vm 4) k (En.sCells (l.take k))
  a6 : S 6 = true → S 7 = false → ∃ X : Nat, vm 6 = .slice (some ⟨X, 0, none⟩) 1 1 ∧ Box w X 60 (En.cells q.e q.sl) ∧ (S 0 = true → S 4 = false → (vm 0).ownBlock ≠ some X) ∧ (S 4 = true → (vm 4).ownBlock ≠ some X)
  a7 : S 7 = true → w.ownsRow base 60 26 (vm 7) (k + 1) (En.sCells (l.take k ++ [q]))
  a8 : S 7 = true → S 4 = true
section
variable {l : List En.S} {k : Nat} {q : En.S} {base : Nat} {S : Nat → Bool} {vm vm' : Nat → Value} {w w' : World}
theorem FrD.start : FrD l k q base (fun _ => false) vm w := ⟨fun h => (by cases h), fun h => (by cases h), fun h => (by cases h), fun h => (by cases h), fun h => (by cases h)⟩
theorem FrD.congr (h : FrD l k q base S vm w) (he : ∀ j, 0 ≤ j → vm j = vm' j) : FrD l k q base S vm' w := by
  have : vm = vm' := funext fun j => he j (Nat.zero_le _)
  rw [← this]; exact h
theorem FrD.skip (h : FrD l k q base S vm w) (i : Nat) (hi : i = 1 ∨ i = 2 ∨ i = 3 ∨ i = 5) (v : Value) : FrD l k q base (Rj.also S i) (Rz.upd vm i v) w := by
  have eS : ∀ j, j = 0 ∨ j = 4 ∨ j = 6 ∨ j = 7 → Rj.also S i j = S j ∧ Rz.upd vm i v j = vm j := fun j hj => by
    have hne : j ≠ i := by omega
    have hb : (j == i) = false := by simpa using hne
    exact ⟨by unfold Rj.also; rw [hb, Bool.or_false], by unfold Rz.upd; rw [if_neg hne]⟩
  obtain ⟨s0, v0⟩ := eS 0 (by omega)
  obtain ⟨s4, v4⟩ := eS 4 (by omega)
  obtain ⟨s6, v6⟩ := eS 6 (by omega)
  obtain ⟨s7, v7⟩ := eS 7 (by omega)
  refine ⟨?_, ?_, ?_, ?_, ?_⟩
  · rw [s0, s4, v0]; exact h.a0
  · rw [s4, s7, v4]; exact h.a4
  · rw [s6, s7, s0, s4, v6, v0, v4]; exact h.a6
  · rw [s7, v7]; exact h.a7
  · rw [s7, s4]; exact h.a8
theorem FrD.op0 (h : FrD l k q base S vm w) (hb : base ≤ w.heap.size) (h0 : S 0 = false) : FrD l k q base (Rj.also S 0) (Rz.upd vm 0 (.slice (some ⟨w.heap.size, 0, none⟩) 0 0)) (w.alloc (.cells #[] 60)) := by
  have hB := one_below w (.cells #[] 60)
  refine ⟨fun _ _ => ?_, fun h4 h7 => ?_, fun h6 h7 => ?_, fun h7 => ?_, fun h7 => ?_⟩
  · exact World.ownsRow_lit (base := base) (e := 60) (size := 26) w #[] 0 hb (Nat.zero_le _) rfl
  · exact own_below (h.a4 (by simpa [Rj.also] using h4) (by simpa [Rj.also] using h7)) hB (Nat.le_refl _)
  · obtain ⟨X, e, hX, _, h4⟩ := h.a6 (by simpa [Rj.also] using h6) (by simpa [Rj.also] using h7)
    refine ⟨X, e, hX.alloc _, fun _ _ he => ?_, fun hh => h4 (by simpa [Rj.also] using hh)⟩
    have e' : w.heap.size = X := by injection he
    have := hX.lt
    omega
  · exact own_below (h.a7 (by simpa [Rj.also] using h7)) hB (Nat.le_refl _)
  · simpa [Rj.also] using h.a8 (by simpa [Rj.also] using h7)
theorem FrD.op6 (h : FrD l k q base S vm w) : FrD l k q base (Rj.also S 6) (Rz.upd vm 6 (.slice (some ⟨w.heap.size, 0, none⟩) 1 1)) (w.alloc (.cells (En.cells q.e q.sl) 60)) := by
  have hB := one_below w (.cells (En.cells q.e q.sl) 60)
  refine ⟨fun h0 h4 => ?_, fun h4 h7 => ?_, fun h6 h7 => ?_, fun h7 => ?_, fun h7 => ?_⟩
  · exact own_below (h.a0 (by simpa [Rj.also] using h0) (by simpa [Rj.also] using h4)) hB (Nat.le_refl _)
  · exact own_below (h.a4 (by simpa [Rj.also] using h4) (by simpa [Rj.also] using h7)) hB (Nat.le_refl _)
  · refine ⟨w.heap.size, rfl, Box.made _ _ _, fun h0 h4 => ?_, fun h4 => ?_⟩
    · exact own_apart (h.a0 (by simpa [Rj.also] using h0) (by simpa [Rj.also] using h4))
    · exact own_apart (h.a4 (by simpa [Rj.also] using h4) (by simpa [Rj.also] using h7))
  · exact own_below (h.a7 (by simpa [Rj.also] using h7)) hB (Nat.le_refl _)
  · simpa [Rj.also] using h.a8 (by simpa [Rj.also] using h7)
theorem FrD.op4 (h : FrD l k q base S vm w) {A : Option Addr} {c : Nat} (h4 : S 4 = false) (h0 : S 0 = true) (ho : w'.ownsRow base 60 26 (.slice A k c) k (En.sCells (l.take k))) (hg : w.grownBy w' (vm 0).ownBlock) (hn : (Value.slice A k c).ownBlock = (vm 0).ownBlock ∨ (Value.slice A k c).ownBlock = some w.heap.size) :
    FrD l k q base (Rj.also S 4) (Rz.upd vm 4 (.slice A k c)) w' := by
  have h7 : S 7 = false := by cases h7 : S 7 with | false => rfl | true => have := h.a8 h7; rw [h4] at this; cases this
  refine ⟨fun _ hh => ?_, fun _ _ => ho, fun h6 _ => ?_, fun hh => ?_, fun hh => ?_⟩
  · simp [Rj.also] at hh
  · obtain ⟨X, e, hX, hne, _⟩ := h.a6 (by simpa [Rj.also] using h6) h7
    refine ⟨X, e, hX.grown hg (hne h0 h4), fun _ hh => by simp [Rj.also] at hh, fun _ he => ?_⟩
    have he' : (Value.slice A k c).ownBlock = some X := he
    rcases hn with hn | hn
    · exact hne h0 h4 (hn ▸ he')
    · rw [hn] at he'
      have e' : w.heap.size = X := by injection he'
      have := hX.lt
      omega
  · have : S 7 = true := by simpa [Rj.also] using hh
    rw [h7] at this; cases this
  · simp [Rj.also]
theorem FrD.op7 (h : FrD l k q base S vm w) {v : Value} (h7 : S 7 = false) (h4 : S 4 = true) (ho : w'.ownsRow base 60 26 v (k + 1) (En.sCells (l.take k ++ [q]))) : FrD l k q base (Rj.also S 7) (Rz.upd vm 7 v) w' := by
  refine ⟨fun _ hh => ?_, fun _ hh => ?_, fun _ hh => ?_, fun _ => ho, fun _ => ?_⟩
  · have : S 4 = false := by simpa [Rj.also] using hh
    rw [h4] at this; cases this
  · simp [Rj.also] at hh
  · simp [Rj.also] at hh
  · simp [Rj.also, h4]
end
/-- The numbers and slices that the acts hand on. -/
def frV (A : Option Addr) (n c k : Nat) (q : En.S) (j : Nat) (vm : Nat → Value) : Prop :=
  match j with
  | 1 => vm 1 = .slice A n c
  | 2 => vm 2 = .int .i64 (k : Int)
  | 3 => vm 3 = .slice A k c
  | 5 => vm 5 = .agg (En.cells q.e q.sl)
  | _ => True
theorem frV_congr {A : Option Addr} {n c k j : Nat} {q : En.S} {vm vm' : Nat → Value} (h : frV A n c k q j vm) (he : vm j = vm' j) : frV A n c k q j vm' := by
  unfold frV at *
  split at h <;> first | (rw [← he]; exact h) | trivial
theorem LiesS.snoc {w : World} {l : List En.S} {k : Nat} {A : Option Addr} {q : En.S} (hk : k ≤ l.length) (hr : Lies w w.heap.size 26 A (k + 1) (En.sCells (l.take k ++ [q]))) (he : ∀ u ∈ l, Lies w w.heap.size 4 u.adr u.e.evs.length (En.evCells u.e.evs)) (hf : ∀ u ∈ l, u.e.evs.length ≤ maxLen) (hq : Lies w w.heap.size 4 q.adr q.e.evs.length (En.evCells q.e.evs)) (hqf : q.e.evs.length ≤ maxLen) : LiesS w w.heap.size A (k + 1) (l.take k ++ [q]) := by
  refine ⟨hr, fun u hu => ?_, fun u hu => ?_⟩
  · rcases List.mem_append.1 hu with hu | hu
    · exact he u (List.mem_of_mem_take hu)
    · rw [List.mem_singleton.1 hu]; exact hq
  · rcases List.mem_append.1 hu with hu | hu
    · exact hf u (List.mem_of_mem_take hu)
    · rw [List.mem_singleton.1 hu]; exact hqf
end Go.Proofs.Ytghomofakpjglaa
namespace Go.Proofs.Ytghomofakpjglaa
open Go.RowKit Go.Shelf
set_option linter.unusedVariables false
set_option linter.unusedSimpArgs false

theorem head_every {P : Program} {K : World → Prop} {M T : Act → Prop} {a : Act} (R : Act → Prop) (hR : R a) (hM : ∀ A, R A → M A) (hT : T a) : Rz.wpHead P K (fun A => M A ∧ T A) [] a := ⟨hM a hR, hT⟩

set_option maxRecDepth 100000 in
set_option maxHeartbeats 4000000 in
theorem front9_law (l : List En.S) (A : Option Addr) (c : Nat) (cut : Int) (q : En.S) (w : World) (hl63 : l.length ≤ maxLen) (hlc : l.length ≤ c) (hL : LiesS w w.heap.size A l.length l) (hcut : -9223372036854775808 ≤ cut ∧ cut ≤ 9223372036854775807) (hq63 : q.e.evs.length ≤ maxLen) (hQ : Lies w w.heap.size 4 q.adr q.e.evs.length (En.evCells q.e.evs)) :
    Calls Try.prog 10 #[.slice A l.length c, .int .i64 cut, .agg (En.cells q.e q.sl)] w fun e w' => e = .returned (.bool true) ∧ Below w.heap.size w w' := by
  have ct := fun X => Lib.hid (told9_any X)
  have P0 := Lib.hid (Box.made w 60 (En.cells q.e q.sl))
  have K0 := Lib.hid (one_below w (.cells (En.cells q.e q.sl) 60))
  have L0 := Lib.hid ((hL.below K0.out).wider K0.out.size)
  have Q0 := Lib.hid ((hQ.below K0.out).wider K0.out.size)
  obtain ⟨n, hn⟩ : ∃ n, n = l.length := ⟨_, rfl⟩
  rw [← hn] at hl63 hlc L0 ⊢
  have HN := Lib.hid hn
  clear hn hL hQ
  have cfs := fun (u : En.S) X => Lib.hid (show Calls Try.prog 24 #[.agg (En.cells u.e u.sl)] X fun r w' => r = .returned (.bool (decide ((u.e.evs.length : Int) ≤ 20))) ∧ Below X.heap.size X w' from enfew_any u.e u.adr u.e.evs.length u.cap X)
  have cfq := cfs q
  by_cases hn10 : (n : Int) ≤ 10
  · have h10 : decide (10 < (n : Int)) = false := decide_eq_false (by omega)
    by_cases hf : (q.e.evs.length : Int) ≤ 20
    · rw [decide_eq_true hf] at cfq
      go_enter Try.func10, Try.ntmps10
      go_wp2_with (first | ((with_reducible refine en_load_g ?_ rfl ?_); (focus first | rfl | kernel_rfl | simp [Region.wanted, yielded]); apply LoadEn.mk rfl; (focus (with_reducible exact P0.out)); dsimp only) | (go_at_call 24; ((with_reducible refine ((cfq _).out).mono ?_); rintro r w1 ⟨rfl, hb⟩; have P1 := Lib.hid (P0.out.below hb P0.out.lt); have K1 := Lib.hid (K0.out.trans (hb.mono K0.out.size)); have L1 := Lib.hid ((L0.out.below hb).wider hb.size); have Q1 := Lib.hid ((Q0.out.below hb).wider hb.size); clear hb)))
      go_loopw [7] (fun i wr => ∃ k : Nat, k ≤ n ∧ i = .int .i64 k ∧ Below w1.heap.size w1 wr) (fun i _ => n - (intOf i).toNat)
      case atStart => exact ⟨0, by omega, rfl, Below.refl _ _⟩
      case round =>
        obtain ⟨k, hk, rfl, hb⟩ := hrel
        have P2 := Lib.hid (P1.out.below hb P1.out.lt)
        have K2 := Lib.hid (K1.out.trans (hb.mono K1.out.size))
        have L2 := Lib.hid ((L1.out.below hb).wider hb.size)
        have Q2 := Lib.hid ((Q1.out.below hb).wider hb.size)
        by_cases hlt : k < n
        · have hk8 : (k : Int) < n := by omega
          have hkl : k < l.length := by have := HN.out; omega
          obtain ⟨ad, rfl, hbl, a0⟩ := L2.out.at k hkl
          have hbl' : (ad.add (k * 26)).block < wr.heap.size := by rw [add_block]; exact hbl
          have LA := Lib.hid a0
          have HB := Lib.hid hb
          have cf := fun X => cfs l[k] X
          clear a0 hb cfs cfq L1 Q1 P1 K1 L0 Q0 K0 P0
          obtain ⟨u, hu⟩ : ∃ u, u = l[k] := ⟨_, rfl⟩
          rw [← hu] at LA cf
          clear hu
          by_cases hfu : (u.e.evs.length : Int) ≤ 20
          · rw [decide_eq_true hfu] at cf
            go_wp2_with (first | ((with_reducible refine load_at_gate rfl rfl Try.underlying60 rfl en_info26 ?_); (apply LoadAt.mk rfl LA.out (En.S.cells_len _); rw [En.S.cells_arr])) | (go_at_call 24; ((with_reducible refine ((cf _).out).mono ?_); rintro r w3 ⟨rfl, hb⟩; have K3 := Lib.hid (HB.out.trans (hb.mono HB.out.size)); clear hb)))
            go_roundw
            case rel => exact ⟨k + 1, by omega, by go_num, K3.out⟩
            case measure => simp [intOf]; omega
          · rw [decide_eq_false hfu] at cf
            go_wp2_with (first | ((with_reducible refine load_at_gate rfl rfl Try.underlying60 rfl en_info26 ?_); (apply LoadAt.mk rfl LA.out (En.S.cells_len _); rw [En.S.cells_arr])) | (go_at_call 24; ((with_reducible refine ((cf _).out).mono ?_); rintro r w3 ⟨rfl, hb⟩; have K3 := Lib.hid (K2.out.trans (hb.mono K2.out.size)); clear hb)) | (go_at_call 25; ((with_reducible refine ((ct _).out).mono ?_); rintro r w4 ⟨rfl, hb⟩; have K4 := Lib.hid (K3.out.trans (hb.mono K3.out.size)); clear hb)))
            go_ret
            exact ⟨rfl, K4.out⟩
        · have hk8 : ¬ (k : Int) < n := by omega
          clear hb L1 Q1 P1 K1 L0 Q0 K0 P0 cfs cfq
          have hwn : IntKind.i64.wrap ((n : Int) + 1) = n + 1 := by rw [IntKind.wrap_i64]; omega
          have hwm : IntKind.u64.wrap ((n : Int) + 1) = n + 1 := by rw [IntKind.wrap_u64]; omega
          have u0 : 0 ≤ IntKind.u64.wrap cut := by rw [IntKind.wrap_u64]; omega
          have u1 : IntKind.u64.wrap cut ≤ 18446744073709551615 := by rw [IntKind.wrap_u64]; omega
          go_upto_region 9 with fail
          obtain ⟨kk, hkk, hkm⟩ : ∃ kk : Nat, RowKit.wrap64 (IntKind.u64.wrap cut % ((n : Int) + 1)) = kk ∧ kk < n + 1 := by
            have h0 : 0 ≤ IntKind.u64.wrap cut % ((n : Int) + 1) := Int.emod_nonneg _ (by omega)
            have h1 : IntKind.u64.wrap cut % ((n : Int) + 1) < n + 1 := Int.emod_lt_of_pos _ (by omega)
            refine ⟨(IntKind.u64.wrap cut % ((n : Int) + 1)).toNat, ?_, by omega⟩
            rw [IntWalk.wrap64_in _ (by omega)]; omega
          rw [hkk]
          have hkn : kk ≤ n := by omega
          obtain ⟨i0, hi0, hz0, hz1, hz2⟩ := en_parts
          have hI := Lib.hid hi0
          have hZ := Lib.hid hz0
          have hSZ := Lib.hid hz1
          have hBY := Lib.hid hz2
          clear hkk hwn hwm u0 u1 hi0 hz0 hz1 hz2 hkm
          refine Rj.wp_region_j (by kernel_rfl) 0 8 (by kernel_rfl) (fun X => Below wr.heap.size wr X) (fun j vm _ => frV A n c kk q j vm) (fun S vm X => FrD l kk q wr.heap.size S vm X) ((Below.refl _ _).drew) (fun _ => FrD.start) (fun S vm vm' X he h => h.congr he) (fun j vm vm' X h1 h2 he hV => frV_congr hV (he j (.inl rfl))) ?_
          simp only [List.take_succ_cons, List.take_zero, List.drop_succ_cons, List.drop_zero, Nat.reduceSub]
          refine head_every (fun A' => A'.tmps.size = 93 ∧ A'.eval (.tmp 0) = .slice A n c ∧ A'.eval (.tmp 8) = .int .i64 (kk : Int) ∧ A'.eval (.tmp 5) = .pointer (some ⟨w.heap.size, 0, none⟩)) ⟨rfl, rfl, rfl, rfl⟩ ?_ ?_
          · intro A' ⟨hAs, hA0, hA8, hA5⟩
            refine ⟨?_, ?_, ?_, ?_, ?_, ?_, ?_, ?_, trivial⟩
            · intro S vm X hX hSi hS hV hD
              refine gives_val (v := .slice (some ⟨X.heap.size, 0, none⟩) 0 0) (w' := X.alloc (.cells #[] 60)) (exec_slice_en0 rfl) ⟨trivial, hX.alloc hX.size _, fun j _ _ _ _ h => h, hD.op0 hX.size hSi⟩
            · intro S vm X hX hSi hS hV hD
              refine gives_val (w' := X) (Rz.exec_move (v := .slice A n c) rfl ?_) ⟨by simp [frV, Rz.upd], hX, fun j _ _ _ _ h => h, hD.skip 1 (by omega) _⟩
              · simp only [Rz.putAll]
                rw [Rz.put_other (by decide), Rz.put_other (by decide), Rz.put_other (by decide), Rz.put_other (by decide), Rz.put_other (by decide), Rz.put_other (by decide), Rz.put_other (by decide), Rz.put_other (by decide)]
                exact hA0
            · intro S vm X hX hSi hS hV hD
              refine gives_val (w' := X) (Rz.exec_move (v := .int .i64 (kk : Int)) rfl ?_) ⟨by simp [frV, Rz.upd], hX, fun j _ _ _ _ h => h, hD.skip 2 (by omega) _⟩
              · simp only [Rz.putAll]
                rw [Rz.put_other (by decide), Rz.put_other (by decide), Rz.put_other (by decide), Rz.put_other (by decide), Rz.put_other (by decide), Rz.put_other (by decide), Rz.put_other (by decide), Rz.put_other (by decide)]
                exact hA8
            · intro S vm X hX hSi hS hV hD
              have e1 : vm 1 = .slice A n c := hV 1 (by omega) (by omega) (hS 1 (by omega) (by omega) (by kernel_rfl))
              have e2 : vm 2 = .int .i64 (kk : Int) := hV 2 (by omega) (by omega) (hS 2 (by omega) (by omega) (by kernel_rfl))
              refine gives_val (w' := X) (v := .slice A kk c) (exec_slice_to (len := n) (n := kk) rfl ?_ ?_ Try.underlying73 en_info (by omega)) ⟨by simp [frV, Rz.upd], hX, fun j _ _ _ _ h => h, hD.skip 3 (by omega) _⟩
              · simp only [Rz.putAll]
                rw [Rz.put_other (by decide), Rz.put_other (by decide), Rz.put_other (by decide), Rz.put_other (by decide), Rz.put_other (by decide), Rz.put_other (by decide), Rz.put_same (by simp only [Rz.put_size, hAs]; decide)]
                exact e1
              · simp only [Rz.putAll]
                rw [Rz.put_other (by decide), Rz.put_other (by decide), Rz.put_other (by decide), Rz.put_other (by decide), Rz.put_other (by decide), Rz.put_same (by simp only [Rz.put_size, hAs]; decide)]
                exact e2
            · intro S vm X hX hSi hS hV hD
              have e3 : vm 3 = .slice A kk c := hV 3 (by omega) (by omega) (hS 3 (by omega) (by omega) (by kernel_rfl))
              have s0 := hS 0 (by omega) (by omega) (by kernel_rfl)
              have hlies := ((L2.out.take kk hkn).row.below hX).wider hX.size
              refine gives_append (t := 73) (size := 26) (bytes := 56) (v := vm 0) (base := wr.heap.size) (n := 0) (xs := []) (A := A) (m := kk) (c := c) (news := En.sCells (l.take kk)) rfl ?_ ?_ Try.underlying73 hI.out hZ.out hSZ.out hBY.out En.zeroC_size (by decide) (hD.a0 s0 hSi) hlies (En.sCells_one _) (by unfold maxLen; omega) (by omega) hX.size ?_
              · simp only [Rz.putAll]
                rw [Rz.put_other (by decide), Rz.put_other (by decide), Rz.put_other (by decide), Rz.put_other (by decide), Rz.put_other (by decide), Rz.put_other (by decide), Rz.put_other (by decide), Rz.put_same (by simp only [Rz.put_size, hAs]; decide)]
              · simp only [Rz.putAll]
                rw [Rz.put_other (by decide), Rz.put_other (by decide), Rz.put_other (by decide), Rz.put_other (by decide), Rz.put_same (by simp only [Rz.put_size, hAs]; decide)]
                exact e3
              · intro A5 c5 w5 ho5 hg5 hn5
                simp only [Nat.zero_add, List.nil_append] at ho5 hn5 ⊢
                exact ⟨trivial, below_grew hX hg5 (own_from (hD.a0 s0 hSi)) (Nat.le_refl _), fun j _ _ _ _ h => h, hD.op4 hSi s0 ho5 hg5 hn5⟩
            · intro S vm X hX hSi hS hV hD
              refine gives_val (w' := X) (exec_load_en (e := q.e) (s := q.sl) (B := w.heap.size) rfl ?_ (P2.out.below hX P2.out.lt)) ⟨by simp [frV, Rz.upd], hX, fun j _ _ _ _ h => h, hD.skip 5 (by omega) _⟩
              · simp only [Rz.putAll]
                rw [Rz.put_other (by decide), Rz.put_other (by decide), Rz.put_other (by decide), Rz.put_other (by decide), Rz.put_other (by decide), Rz.put_other (by decide), Rz.put_other (by decide), Rz.put_other (by decide)]
                exact hA5
            · intro S vm X hX hSi hS hV hD
              have e5 : vm 5 = .agg (En.cells q.e q.sl) := hV 5 (by omega) (by omega) (hS 5 (by omega) (by omega) (by kernel_rfl))
              refine gives_val (v := .slice (some ⟨X.heap.size, 0, none⟩) 1 1) (w' := X.alloc (.cells (En.cells q.e q.sl) 60)) (exec_slice_en (e := q.e) (s := q.sl) rfl ?_) ⟨trivial, hX.alloc hX.size _, fun j _ _ _ _ h => h, hD.op6⟩
              · simp only [Rz.putAll]
                rw [Rz.put_other (by decide), Rz.put_other (by decide), Rz.put_same (by simp only [Rz.put_size, hAs]; decide)]
                exact e5
            · intro S vm X hX hSi hS hV hD
              have s4 := hS 4 (by omega) (by omega) (by kernel_rfl)
              have s6 := hS 6 (by omega) (by omega) (by kernel_rfl)
              obtain ⟨Y, e6, hY, _, hne⟩ := hD.a6 s6 hSi
              have hlies := Lies.boxed (n := 1) (size := 26) (xs := q.cells) (by rw [En.S.cells_arr]; exact hY) (by rw [En.S.cells_len])
              refine gives_append (t := 73) (size := 26) (bytes := 56) (v := vm 4) (base := wr.heap.size) (n := kk) (xs := En.sCells (l.take kk)) (A := some ⟨Y, 0, none⟩) (m := 1) (c := 1) (news := q.cells) rfl ?_ ?_ Try.underlying73 hI.out hZ.out hSZ.out hBY.out En.zeroC_size (by decide) (hD.a4 s4 hSi) hlies (by have := En.sCells_one [q]; unfold En.sCells at this; simpa using this) (by unfold maxLen; omega) (by omega) hX.size ?_
              · simp only [Rz.putAll]
                rw [Rz.put_other (by decide), Rz.put_other (by decide), Rz.put_other (by decide), Rz.put_same (by simp only [Rz.put_size, hAs]; decide)]
              · simp only [Rz.putAll]
                rw [Rz.put_other (by decide), Rz.put_same (by simp only [Rz.put_size, hAs]; decide)]
                exact e6
              · intro A5 c5 w5 ho5 hg5 hn5
                rw [En.sCells_take_one] at ho5
                exact ⟨trivial, below_grew hX hg5 (own_from (hD.a4 s4 hSi)) (Nat.le_refl _), fun j _ _ _ _ h => h, hD.op7 hSi s4 ho5⟩
          · intro S vm X hX hS hV hD
            have own9 := hD.a7 (hS 7 (by omega) (by omega))
            obtain ⟨A9, c9, e9⟩ := owned_slice own9
            rw [e9] at own9
            have hLm := Lies.owned own9
            have hX9 := (hX : Below wr.heap.size wr X)
            have P3 := Lib.hid (P2.out.below hX9 P2.out.lt)
            have K3 := Lib.hid (K2.out.trans (hX9.mono K2.out.size))
            have L3 := Lib.hid ((L2.out.below hX9).wider hX9.size)
            have Q3 := Lib.hid ((Q2.out.below hX9).wider hX9.size)
            have hkl : kk ≤ l.length := by have := HN.out; omega
            have M3 := Lib.hid (LiesS.snoc (q := q) hkl hLm L3.out.each L3.out.few Q3.out hq63)
            have hc9 : kk + 1 ≤ c9 := own_cap own9
            clear hS hV hD own9 hLm hX9 hX P2 K2 L2 Q2 hI hZ hSZ hBY
            simp only [Rz.putAll, Nat.reduceAdd, e9]
            generalize vm 0 = v0
            generalize vm 1 = v1
            generalize vm 2 = v2
            generalize vm 3 = v3
            generalize vm 4 = v4
            generalize vm 5 = v5
            generalize vm 6 = v6
            clear e9
            simp only [Act.put, List.setIfInBounds_toArray, List.set_cons_succ, List.set_cons_zero]
            have hsl := fun W => run_slice_to (P := Try.prog) (t := 73) A n c kk Try.underlying73 en_info (by omega) W
            have f1 := En.front_self l
            have f2 := En.front_cut hkl
            have f3 := En.front_back hkl
            rw [← HN.out] at f3
            have ca := fun X' (h : Below X.heap.size X X') => Lib.hid (front_any l l A A n n c c X' hl63 hl63 hlc ((L3.out.below h).wider h.size) ((L3.out.below h).wider h.size))
            have cb := fun X' (h : Below X.heap.size X X') => Lib.hid (front_any (l.take kk) l A A kk n c c X' (by omega) hl63 hlc (((L3.out.below h).wider h.size).take kk hkn) ((L3.out.below h).wider h.size))
            have cc := fun X' (h : Below X.heap.size X X') => Lib.hid (front_any l (l.take kk) A A n kk c c X' hl63 (by omega) (by omega) ((L3.out.below h).wider h.size) (((L3.out.below h).wider h.size).take kk hkn))
            have cd := fun X' (h : Below X.heap.size X X') => Lib.hid (front_any (l.take kk ++ [q]) l A9 A (kk + 1) n c9 c X' (by unfold maxLen; omega) hl63 hlc ((M3.out.below h).wider h.size) ((L3.out.below h).wider h.size))
            rw [f1] at ca
            rw [f2] at cb
            rw [f3] at cc
            have hwk : IntKind.i64.wrap ((kk : Int) + 1) = ((kk + 1 : Nat) : Int) := by rw [IntKind.wrap_i64]; omega
            clear f1 f2 f3
            by_cases hkn2 : kk < n
            · have hkl2 : kk < l.length := by have := HN.out; omega
              have f4 := En.front_turn hkl2 q
              rw [f4] at cd
              have hk9 : (kk : Int) < n := by omega
              have hkne : ((kk : Int) == n) = false := by simp; omega
              have hdne : decide (kk = n) = false := decide_eq_false (by omega)
              rw [hdne] at cc
              obtain ⟨ad, rfl, hbl, a0⟩ := L3.out.at kk hkl2
              have u64 := L3.out.few l[kk] (List.getElem_mem hkl2)
              have ul := L3.out.each l[kk] (List.getElem_mem hkl2)
              generalize l[kk] = u at cd a0 u64 ul
              have csm := fun X' (h : Below X.heap.size X X') => Lib.hid (refsameen_any u q X' u64 hq63 ((ul.below h).wider h.size) ((Q3.out.below h).wider h.size))
              generalize En.likeB u.e q.e = lb at cd csm
              have ZT := Lib.hid (fun z : Ext X.heap.size X => P3.out.below z.h P3.out.lt)
              have ZA := Lib.hid (fun (z : Ext X.heap.size X) j v (hv : u.cells[j]? = some v) => (World.cell?_of_block (w := X) (w' := z.w) (by rw [add_block, add_block]; exact z.h.block _ hbl)).trans (a0 j v hv))
              have CSM := Lib.hid (fun z : Ext X.heap.size X => (csm z.w z.h).out)
              clear a0 csm f4 hkn2 hbl
              go_upto_region 10 with fail
              refine wp_region_ext X.heap.size X (by kernel_rfl) (by kernel_rfl) (Below.refl _ _) ?_
              repeat (first | (go_big_quiet_want; (first | (refine quiet_en rfl rfl ZT.out ?_) | (refine quiet_at rfl rfl ZA.out ?_)); simp only [Act.put, List.setIfInBounds_toArray, List.set_cons_succ, List.set_cons_zero]; go_big_quiet_on) | go_big_quiet_step ((go_at_call 32; with_reducible exact Calls.ext_of (Nat.le_refl _) (CSM.out _))))
              refine wpQuiet_nil ?_
              intro _ hw'
              obtain ⟨z, hw''⟩ := hw'
              subst hw''
              have J4 := Lib.hid z.h
              clear ZT ZA CSM P3 L3 Q3 M3
              go_wp2_with (first | (go_at_call 25; ((with_reducible refine ((ct _).out).mono ?_); rintro r w5 ⟨rfl, hb⟩; have J5 := Lib.hid (J4.out.trans (hb.mono J4.out.size)); clear hb)) | (go_at_call 34; first | ((with_reducible refine (((ca _ J5.out).out).mono ?_)); rintro r w6 ⟨rfl, hb⟩; have J6 := Lib.hid (J5.out.trans (hb.mono J5.out.size)); clear hb ca) | ((with_reducible refine (((cb _ J6.out).out).mono ?_)); rintro r w7 ⟨rfl, hb⟩; have J7 := Lib.hid (J6.out.trans (hb.mono J6.out.size)); clear hb cb) | ((with_reducible refine (((cc _ J7.out).out).mono ?_)); rintro r w8 ⟨rfl, hb⟩; have J8 := Lib.hid (J7.out.trans (hb.mono J7.out.size)); clear hb cc) | ((with_reducible refine (((cd _ J8.out).out).mono ?_)); rintro r w9 ⟨rfl, hb⟩; have J9 := Lib.hid (J8.out.trans (hb.mono J8.out.size)); clear hb cd)))
              go_ret
              exact ⟨ret_bool (by simp), K3.out.trans (J9.out.mono K3.out.size)⟩
            · obtain rfl : kk = n := by omega
              have e0 : l.take kk = l := List.take_of_length_le (by have := HN.out; omega)
              have f4 : En.frontB (l.take kk ++ [q]) l = false := by rw [e0]; exact En.front_over q
              rw [f4] at cd
              have hk9 : ¬ (kk : Int) < kk := by omega
              have hkne : ((kk : Int) == kk) = true := by simp
              have hdne : decide (kk = kk) = true := decide_eq_true rfl
              rw [hdne] at cc
              clear f4
              go_upto_region 10 with fail
              refine wp_region_ext X.heap.size X (by kernel_rfl) (by kernel_rfl) (Below.refl _ _) ?_
              repeat (go_big_quiet_step (fail))
              refine wpQuiet_nil ?_
              intro _ hw'
              obtain ⟨z, hw''⟩ := hw'
              subst hw''
              have J4 := Lib.hid z.h
              clear P3 L3 Q3 M3
              go_wp2_with (first | (go_at_call 25; ((with_reducible refine ((ct _).out).mono ?_); rintro r w5 ⟨rfl, hb⟩; have J5 := Lib.hid (J4.out.trans (hb.mono J4.out.size)); clear hb)) | (go_at_call 34; first | ((with_reducible refine (((ca _ J5.out).out).mono ?_)); rintro r w6 ⟨rfl, hb⟩; have J6 := Lib.hid (J5.out.trans (hb.mono J5.out.size)); clear hb ca) | ((with_reducible refine (((cb _ J6.out).out).mono ?_)); rintro r w7 ⟨rfl, hb⟩; have J7 := Lib.hid (J6.out.trans (hb.mono J6.out.size)); clear hb cb) | ((with_reducible refine (((cc _ J7.out).out).mono ?_)); rintro r w8 ⟨rfl, hb⟩; have J8 := Lib.hid (J7.out.trans (hb.mono J7.out.size)); clear hb cc) | ((with_reducible refine (((cd _ J8.out).out).mono ?_)); rintro r w9 ⟨rfl, hb⟩; have J9 := Lib.hid (J8.out.trans (hb.mono J8.out.size)); clear hb cd)))
              go_ret
              exact ⟨ret_bool (by simp), K3.out.trans (J9.out.mono K3.out.size)⟩
    · have cf2 : decide ((q.e.evs.length : Int) ≤ 20) = false := decide_eq_false hf
      rw [cf2] at cfq
      go_enter Try.func10, Try.ntmps10
      go_wp2_with (first | ((with_reducible refine en_load_g ?_ rfl ?_); (focus first | rfl | kernel_rfl | simp [Region.wanted, yielded]); apply LoadEn.mk rfl; (focus (with_reducible exact P0.out)); dsimp only) | (go_at_call 24; ((with_reducible refine ((cfq _).out).mono ?_); rintro r w1 ⟨rfl, hb⟩; have K1 := Lib.hid (K0.out.trans (hb.mono K0.out.size)); clear hb)) | (go_at_call 25; ((with_reducible refine ((ct _).out).mono ?_); rintro r w2 ⟨rfl, hb⟩; have K2 := Lib.hid (K1.out.trans (hb.mono K1.out.size)); clear hb)))
      go_ret
      exact ⟨rfl, K2.out⟩
  · have h10 : decide (10 < (n : Int)) = true := decide_eq_true (by omega)
    go_enter Try.func10, Try.ntmps10
    go_wp2_with (go_at_call 25; ((with_reducible refine ((ct _).out).mono ?_); rintro r w2 ⟨rfl, hb⟩; have K2 := Lib.hid (K0.out.trans (hb.mono K0.out.size)); clear hb))
    go_ret
    exact ⟨rfl, K2.out⟩
end Go.Proofs.Ytghomofakpjglaa
namespace Go.Proofs.Ytghomofakpjglaa
open Go.RowKit Go.Shelf
set_option linter.unusedVariables false
set_option linter.unusedSimpArgs false

theorem ev_built (A : Option Addr) (n c : Nat) : Try.prog.built 60 [(1, .slice A n c)] = some (En.cells ⟨0, [], En.in0⟩ (.slice A n c)) := by kernel_rfl
theorem ev_fill1 (k s g p : Int) : Instr.fill (fun i => some (i * 4, 4)) ((Array.range (1 * 4)).map ((Value.agg #[.int .i64 0, .int .i64 0, .int .i64 0, .int .i64 0]).cells[· % (Value.agg #[.int .i64 0, .int .i64 0, .int .i64 0, .int .i64 0]).cells.size]!)) [(0, .agg #[.int .i64 k, .int .i64 s, .int .i64 g, .int .i64 p])] = some #[.int .i64 k, .int .i64 s, .int .i64 g, .int .i64 p] := by kernel_rfl
theorem ev_fill2 (k s g p k' s' g' p' : Int) : Instr.fill (fun i => some (i * 4, 4)) ((Array.range (2 * 4)).map ((Value.agg #[.int .i64 0, .int .i64 0, .int .i64 0, .int .i64 0]).cells[· % (Value.agg #[.int .i64 0, .int .i64 0, .int .i64 0, .int .i64 0]).cells.size]!)) [(0, .agg #[.int .i64 k, .int .i64 s, .int .i64 g, .int .i64 p]), (1, .agg #[.int .i64 k', .int .i64 s', .int .i64 g', .int .i64 p'])] = some #[.int .i64 k, .int .i64 s, .int .i64 g, .int .i64 p, .int .i64 k', .int .i64 s', .int .i64 g', .int .i64 p'] := by kernel_rfl
theorem ev_slice1 (k s g p : Int) (W : World) : (Instr.buildSlice 54 1 #[(0, .agg #[.int .i64 k, .int .i64 s, .int .i64 g, .int .i64 p])]).run Try.prog W = .ok (.slice (some ⟨W.heap.size, 0, none⟩) 1 1) (W.alloc (.cells #[.int .i64 k, .int .i64 s, .int .i64 g, .int .i64 p] 71)) := by
  have h1 := ev_info
  cases hq : Try.prog.info? 71 with
  | none => rw [hq] at h1; cases h1
  | some ie =>
    rw [hq] at h1
    simp only [Option.map_some, Option.some.injEq, Prod.mk.injEq] at h1
    obtain ⟨hz, hs, hb⟩ := h1
    exact run_buildSlice W _ _ 1 _ _ ie _ Try.underlying54 hq hz (by rw [hs]; decide) (by rw [hs]; decide) (by rw [hs]; exact ev_fill1 k s g p)
theorem ev_slice2 (k s g p k' s' g' p' : Int) (W : World) : (Instr.buildSlice 54 2 #[(0, .agg #[.int .i64 k, .int .i64 s, .int .i64 g, .int .i64 p]), (1, .agg #[.int .i64 k', .int .i64 s', .int .i64 g', .int .i64 p'])]).run Try.prog W = .ok (.slice (some ⟨W.heap.size, 0, none⟩) 2 2) (W.alloc (.cells #[.int .i64 k, .int .i64 s, .int .i64 g, .int .i64 p, .int .i64 k', .int .i64 s', .int .i64 g', .int .i64 p'] 71)) := by
  have h1 := ev_info
  cases hq : Try.prog.info? 71 with
  | none => rw [hq] at h1; cases h1
  | some ie =>
    rw [hq] at h1
    simp only [Option.map_some, Option.some.injEq, Prod.mk.injEq] at h1
    obtain ⟨hz, hs, hb⟩ := h1
    exact run_buildSlice W _ _ 2 _ _ ie _ Try.underlying54 hq hz (by rw [hs]; decide) (by rw [hs]; decide) (by rw [hs]; exact ev_fill2 k s g p k' s' g' p')

theorem exec_alloc_y {P : Program} {o : Oper} {a : Act} {w : World} {t : TypeId} {z : Value} {cs : Array Value} (ho : o.op = .alloc t) (hz : (P.info? t).map (·.zero) = some (some z)) (hc : z.cells = cs) :
    (execOp a.eval o).run P w = .ok (.value (.pointer (some ⟨w.heap.size, 0, none⟩))) (w.alloc (.cells cs t)) := by
  have hz' : (zeroValue t).run P w = .ok z w := by
    cases hq : P.info? t with
    | none => simp [hq] at hz
    | some i => simp [hq] at hz; simp [zeroValue, typeInfo, hq, hz]
  subst hc
  unfold execOp
  simp only [ho, Instr.alloc, Sem.run_bind, hz', Result.andThen_ok]
  rfl
theorem exec_slice1 {o : Oper} {a : Act} {w : World} {x : Operand} {k s g p : Int} (ho : o.op = .buildSlice 54 1 #[(0, x)]) (hx : a.eval x = .agg #[.int .i64 k, .int .i64 s, .int .i64 g, .int .i64 p]) :
    (execOp a.eval o).run Try.prog w = .ok (.value (.slice (some ⟨w.heap.size, 0, none⟩) 1 1)) (w.alloc (.cells #[.int .i64 k, .int .i64 s, .int .i64 g, .int .i64 p] 71)) := by
  have hr := ev_slice1 k s g p w
  unfold execOp
  simp only [ho, List.map_toArray, List.map_cons, List.map_nil, hx, Sem.run_bind, hr, Result.andThen_ok, Sem.run_pure]
theorem exec_build1 {o : Oper} {a : Act} {w : World} {x : Operand} {A : Option Addr} {n c : Nat} (ho : o.op = .build 60 #[(1, x)]) (hx : a.eval x = .slice A n c) :
    (execOp a.eval o).run Try.prog w = .ok (.value (.agg (En.cells ⟨0, [], En.in0⟩ (.slice A n c)))) w := by
  have hb := run_build (P := Try.prog) w 60 #[(1, .slice A n c)] _ (ev_built A n c)
  unfold execOp
  simp only [ho, List.map_toArray, List.map_cons, List.map_nil, hx, Sem.run_bind, hb, Result.andThen_ok, Sem.run_pure]
theorem exec_load_ev {o : Oper} {a : Act} {w : World} {x : Operand} {B : Nat} {cs : Array Value} (ho : o.op = .load 71 x) (hx : a.eval x = .pointer (some ⟨B, 0, none⟩)) (hB : Box w B 71 cs) (hs : cs.size = 4) :
    (execOp a.eval o).run Try.prog w = .ok (.value (.agg cs)) w := exec_load_blk ho hx hB Try.underlying71 rfl (by rw [hs]; have := ev_info; cases hq : Try.prog.info? 71 with | none => rw [hq] at this; cases this | some i => rw [hq] at this; simp at this; simp [this.2.1])

theorem exec_store_y {P : Program} {o : Oper} {a : Act} {w : World} {x y : Operand} {B : Nat} {t : TypeId} {cs old : Array Value} (ho : o.op = .store t x y) (hx : a.eval x = .pointer (some ⟨B, 0, none⟩)) (hy : a.eval y = .agg cs) (hB : Box w B t old) (hi : (P.info? t).map (·.size) = some cs.size) (hs : old.size = cs.size) (h1 : cs.all (·.oneCell') = true) :
    (execOp a.eval o).run P w = .ok .skip (w.setRow B cs) := by
  have hs := run_storeVar_row (P := P) w B t t old cs hB.is hi hs h1
  unfold execOp
  simp only [ho, hx, hy, Instr.storeAt, Instr.sureAddr, Sem.run_bind, Sem.run_pure, Result.andThen_ok, hs]
theorem head_all {P : Program} {K : World → Prop} {M T : Act → Prop} {a : Act} (R : Act → Prop) (hR : R a) (hM : ∀ A, R A → M A) (hT : T a) : Rz.wpHead P K (fun A => M A ∧ T A) [] a := ⟨hM a hR, hT⟩
/-- What stands behind each of the acts: two lists made, two entries of them, two variables. -/
def evV (a b : Array Value) (base : Nat) (j : Nat) (vm : Nat → Value) (w : World) : Prop :=
  match j with
  | 1 => ∃ S : Nat, vm 1 = .slice (some ⟨S, 0, none⟩) 1 1 ∧ Box w S 71 a
  | 2 => ∃ S : Nat, vm 2 = .agg (En.cells ⟨0, [], En.in0⟩ (.slice (some ⟨S, 0, none⟩) 1 1)) ∧ Box w S 71 a
  | 3 => vm 3 = .agg b
  | 4 => ∃ S : Nat, vm 4 = .slice (some ⟨S, 0, none⟩) 1 1 ∧ Box w S 71 b
  | 5 => ∃ S : Nat, vm 5 = .agg (En.cells ⟨0, [], En.in0⟩ (.slice (some ⟨S, 0, none⟩) 1 1)) ∧ Box w S 71 b
  | 6 => ∃ (B : Nat) (old : Array Value), vm 6 = .pointer (some ⟨B, 0, none⟩) ∧ base ≤ B ∧ Box w B 60 old ∧ old.size = 26
  | 7 => ∃ B : Nat, vm 7 = .pointer (some ⟨B, 0, none⟩) ∧ base ≤ B ∧ Box w B 60 En.zeroC
  | 8 => ∃ B S : Nat, vm 6 = .pointer (some ⟨B, 0, none⟩) ∧ base ≤ B ∧ Box w B 60 (En.cells ⟨0, [], En.in0⟩ (.slice (some ⟨S, 0, none⟩) 1 1)) ∧ Box w S 71 a
  | _ => True
theorem evV_below {a b : Array Value} {base j : Nat} {vm : Nat → Value} {w w' : World} (h : evV a b base j vm w) (hb : Below w.heap.size w w') : evV a b base j vm w' := by
  unfold evV at *
  split at h
  · obtain ⟨S, e, hB⟩ := h; exact ⟨S, e, hB.below hb hB.lt⟩
  · obtain ⟨S, e, hB⟩ := h; exact ⟨S, e, hB.below hb hB.lt⟩
  · exact h
  · obtain ⟨S, e, hB⟩ := h; exact ⟨S, e, hB.below hb hB.lt⟩
  · obtain ⟨S, e, hB⟩ := h; exact ⟨S, e, hB.below hb hB.lt⟩
  · obtain ⟨S, old, e, h1, hB, hs⟩ := h; exact ⟨S, old, e, h1, hB.below hb hB.lt, hs⟩
  · obtain ⟨S, e, h1, hB⟩ := h; exact ⟨S, e, h1, hB.below hb hB.lt⟩
  · obtain ⟨B, S, e, h1, hB, hS⟩ := h; exact ⟨B, S, e, h1, hB.below hb hB.lt, hS.below hb hS.lt⟩
  · trivial
theorem ev_apart {w : World} {S B : Nat} {a cs : Array Value} (hS : Box w S 71 a) (hB : Box w B 60 cs) : S ≠ B := Box.apart hS hB (by decide)
theorem evV_row {a b : Array Value} {base j B : Nat} {vm : Nat → Value} {w : World} {old cs : Array Value} (h : evV a b base j vm w) (h6 : vm 6 = .pointer (some ⟨B, 0, none⟩)) (hB : Box w B 60 old) (hs : cs.size = 26) (h7 : j = 7 → vm 6 ≠ vm 7) (h8 : j ≠ 8) : evV a b base j vm (w.setRow B cs) := by
  unfold evV at *
  split at h
  · obtain ⟨S, e, hS⟩ := h; exact ⟨S, e, hS.row_far (ev_apart hS hB) _⟩
  · obtain ⟨S, e, hS⟩ := h; exact ⟨S, e, hS.row_far (ev_apart hS hB) _⟩
  · exact h
  · obtain ⟨S, e, hS⟩ := h; exact ⟨S, e, hS.row_far (ev_apart hS hB) _⟩
  · obtain ⟨S, e, hS⟩ := h; exact ⟨S, e, hS.row_far (ev_apart hS hB) _⟩
  · obtain ⟨S, old', e, h1, hS, hs'⟩ := h
    have eb : S = B := by rw [e] at h6; injection h6 with h6; injection h6 with h6; injection h6
    subst eb
    exact ⟨S, cs, e, h1, hS.row _, hs⟩
  · obtain ⟨S, e, h1, hS⟩ := h
    refine ⟨S, e, h1, hS.row_far (fun eb => ?_) _⟩
    subst eb
    exact h7 rfl (h6.trans e.symm)
  · exact absurd rfl h8
  · trivial
theorem evV_congr {a b : Array Value} {base j : Nat} {vm vm' : Nat → Value} {w : World} (h : evV a b base j vm w) (he : vm j = vm' j) (h8 : j = 8 → vm 6 = vm' 6) : evV a b base j vm' w := by
  unfold evV at *
  split at h <;> first | (rw [← he]; exact h) | (rw [← h8 rfl]; exact h) | trivial

set_option maxRecDepth 100000 in
set_option maxHeartbeats 4000000 in
theorem events9_law (a b : En.Ev) (w : World) (ha : En.tyEv a) (hb : En.tyEv b) :
    Calls Try.prog 9 #[.agg a.cells.toArray, .agg b.cells.toArray] w fun e w' => e = .returned (.bool true) ∧ Below w.heap.size w w' := by
  have ct := fun X => Lib.hid (told9_any X)
  have P0 := Lib.hid ((Box.made w 71 a.cells.toArray).alloc (.cells b.cells.toArray 71))
  have Q0 := Lib.hid (Box.made_at (n := w.heap.size + 1) (w.alloc (.cells a.cells.toArray 71)) 71 b.cells.toArray (by simp))
  have K0 := Lib.hid (two_below' w (.cells a.cells.toArray 71) (.cells b.cells.toArray 71))
  have cm1 := fun S X (hB : Box X S 71 a.cells.toArray) => Lib.hid (show Calls Try.prog 28 #[.agg (En.cells ⟨0, [], En.in0⟩ (.slice (some ⟨S, 0, none⟩) 1 1))] X fun r w' => r = .returned (.bool (decide (En.Ok ⟨0, [a], En.in0⟩))) ∧ Below X.heap.size X w' from enmay_any ⟨0, [a], En.in0⟩ (some ⟨S, 0, none⟩) 1 1 X rfl (by decide) (Lies.boxed (xs := En.evCells [a]) (by rw [show (En.evCells [a]).toArray = a.cells.toArray from by simp [En.evCells]]; exact hB) (En.evCells_len _)))
  have cm2 := fun S X (hB : Box X S 71 b.cells.toArray) => Lib.hid (show Calls Try.prog 28 #[.agg (En.cells ⟨0, [], En.in0⟩ (.slice (some ⟨S, 0, none⟩) 1 1))] X fun r w' => r = .returned (.bool (decide (En.Ok ⟨0, [b], En.in0⟩))) ∧ Below X.heap.size X w' from enmay_any ⟨0, [b], En.in0⟩ (some ⟨S, 0, none⟩) 1 1 X rfl (by decide) (Lies.boxed (xs := En.evCells [b]) (by rw [show (En.evCells [b]).toArray = b.cells.toArray from by simp [En.evCells]]; exact hB) (En.evCells_len _)))
  have cm3 := fun S X (hB : Box X S 71 (En.evCells [a, b]).toArray) => Lib.hid (show Calls Try.prog 28 #[.agg (En.cells ⟨0, [], En.in0⟩ (.slice (some ⟨S, 0, none⟩) 2 2))] X fun r w' => r = .returned (.bool (decide (En.Ok ⟨0, [a, b], En.in0⟩))) ∧ Below X.heap.size X w' from enmay_any ⟨0, [a, b], En.in0⟩ (some ⟨S, 0, none⟩) 2 2 X rfl (by decide) (Lies.boxed (xs := En.evCells [a, b]) (hB) (En.evCells_len _)))
  obtain ⟨ak, az, ag, ap⟩ := a
  obtain ⟨bk, bz, bg, bp⟩ := b
  simp only [En.Ev.cells] at *
  have s3 := ev_slice2 ak az ag ap bk bz bg bp
  go_enter Try.func9, Try.ntmps9
  go_upto_region 1 with fail
  generalize hV : (w.alloc (.cells #[.int .i64 ak, .int .i64 az, .int .i64 ag, .int .i64 ap] 71)).alloc (.cells #[.int .i64 bk, .int .i64 bz, .int .i64 bg, .int .i64 bp] 71) = V at *
  have VS : V.heap.size = w.heap.size + 1 + 1 := by rw [← hV]; simp
  clear hV
  have HP := Lib.hid (fun X (hX : Below V.heap.size V X) => P0.out.below hX P0.out.lt)
  have HQ := Lib.hid (fun X (hX : Below V.heap.size V X) => Q0.out.below hX Q0.out.lt)
  refine Rj.wp_region_j (by kernel_rfl) 1 9 (by kernel_rfl) (fun X => Below V.heap.size V X) (fun j vm X => evV #[.int .i64 ak, .int .i64 az, .int .i64 ag, .int .i64 ap] #[.int .i64 bk, .int .i64 bz, .int .i64 bg, .int .i64 bp] V.heap.size j vm X) (fun S vm _ => S 6 = true → S 7 = true → vm 6 ≠ vm 7) ((Below.refl _ _).drew) (fun _ h => by cases h) (fun S vm vm' X he h h6 h7 => by rw [← he 6 (by decide), ← he 7 (by decide)]; exact h h6 h7) (fun j vm vm' X h1 h2 he hV => evV_congr hV (he j (.inl rfl)) (fun e => he 6 (.inr (by subst e; kernel_rfl)))) ?_
  simp only [List.take_succ_cons, List.take_zero, List.drop_succ_cons, List.drop_zero, Nat.reduceSub]
  apply Rz.head_op
  · intro W hW
    exact exec_load_ev rfl rfl (HP.out W hW) rfl
  refine head_all (fun A => A.tmps.size = 57 ∧ A.eval (.tmp 9) = .agg #[.int .i64 ak, .int .i64 az, .int .i64 ag, .int .i64 ap] ∧ A.eval (.tmp 3) = .pointer (some ⟨w.heap.size + 1, 0, none⟩)) ⟨by simp only [Rz.put_size]; rfl, ?_, ?_⟩ ?_ ?_
  · exact Rz.put_same (show 9 < 57 by decide)
  · exact (Rz.put_other (by decide)).trans (by first | done | simp [Act.eval])
  · intro A ⟨hAs, hA9, hA3⟩
    refine ⟨?_, ?_, ?_, ?_, ?_, ?_, ?_, ?_, trivial⟩
    · intro S vm X hX hSi hS hV hD
      refine gives_val (v := .slice (some ⟨X.heap.size, 0, none⟩) 1 1) (w' := X.alloc (.cells #[.int .i64 ak, .int .i64 az, .int .i64 ag, .int .i64 ap] 71)) (exec_slice1 (k := ak) (s := az) (g := ag) (p := ap) rfl ?_) ⟨⟨X.heap.size, rfl, Box.made _ _ _⟩, hX.alloc hX.size _, fun j _ _ _ _ h => evV_below h (one_below _ _), fun h6 h7 => by simpa [Rz.upd, Rj.also] using hD (by simpa [Rj.also] using h6) (by simpa [Rj.also] using h7)⟩
      · simp only [Rz.putAll]
        rw [Rz.put_none, Rz.put_other (by decide), Rz.put_other (by decide), Rz.put_other (by decide), Rz.put_other (by decide), Rz.put_other (by decide), Rz.put_other (by decide), Rz.put_other (by decide)]
        exact hA9
    · intro S vm X hX hSi hS hV hD
      obtain ⟨S5, e1, hB⟩ := hV 1 (by omega) (by omega) (hS 1 (by omega) (by omega) (by kernel_rfl))
      refine gives_val (exec_build1 (A := some ⟨S5, 0, none⟩) (n := 1) (c := 1) rfl ?_) ⟨⟨S5, by simp [Rz.upd], hB⟩, hX, fun j _ _ _ _ h => h, fun h6 h7 => by simpa [Rz.upd, Rj.also] using hD (by simpa [Rj.also] using h6) (by simpa [Rj.also] using h7)⟩
      · simp only [Rz.putAll]
        rw [Rz.put_none, Rz.put_other (by decide), Rz.put_other (by decide), Rz.put_other (by decide), Rz.put_other (by decide), Rz.put_other (by decide), Rz.put_other (by decide), Rz.put_same (by simp only [Rz.put_size, hAs]; decide)]
        exact e1
    · intro S vm X hX hSi hS hV hD
      refine gives_val (exec_load_ev rfl ?_ (HQ.out X hX) rfl) ⟨by simp [evV, Rz.upd], hX, fun j _ _ _ _ h => h, fun h6 h7 => by simpa [Rz.upd, Rj.also] using hD (by simpa [Rj.also] using h6) (by simpa [Rj.also] using h7)⟩
      · simp only [Rz.putAll]
        rw [Rz.put_none, Rz.put_other (by decide), Rz.put_other (by decide), Rz.put_other (by decide), Rz.put_other (by decide), Rz.put_other (by decide), Rz.put_other (by decide), Rz.put_other (by decide)]
        exact hA3
    · intro S vm X hX hSi hS hV hD
      have e3 : vm 3 = _ := hV 3 (by omega) (by omega) (hS 3 (by omega) (by omega) (by kernel_rfl))
      refine gives_val (v := .slice (some ⟨X.heap.size, 0, none⟩) 1 1) (w' := X.alloc (.cells #[.int .i64 bk, .int .i64 bz, .int .i64 bg, .int .i64 bp] 71)) (exec_slice1 (k := bk) (s := bz) (g := bg) (p := bp) rfl ?_) ⟨⟨X.heap.size, rfl, Box.made _ _ _⟩, hX.alloc hX.size _, fun j _ _ _ _ h => evV_below h (one_below _ _), fun h6 h7 => by simpa [Rz.upd, Rj.also] using hD (by simpa [Rj.also] using h6) (by simpa [Rj.also] using h7)⟩
      · simp only [Rz.putAll]
        rw [Rz.put_none, Rz.put_other (by decide), Rz.put_other (by decide), Rz.put_other (by decide), Rz.put_other (by decide), Rz.put_same (by simp only [Rz.put_size, hAs]; decide)]
        exact e3
    · intro S vm X hX hSi hS hV hD
      obtain ⟨S5, e1, hB⟩ := hV 4 (by omega) (by omega) (hS 4 (by omega) (by omega) (by kernel_rfl))
      refine gives_val (exec_build1 (A := some ⟨S5, 0, none⟩) (n := 1) (c := 1) rfl ?_) ⟨⟨S5, by simp [Rz.upd], hB⟩, hX, fun j _ _ _ _ h => h, fun h6 h7 => by simpa [Rz.upd, Rj.also] using hD (by simpa [Rj.also] using h6) (by simpa [Rj.also] using h7)⟩
      · simp only [Rz.putAll]
        rw [Rz.put_none, Rz.put_other (by decide), Rz.put_other (by decide), Rz.put_other (by decide), Rz.put_same (by simp only [Rz.put_size, hAs]; decide)]
        exact e1
    · intro S vm X hX hSi hS hV hD
      refine gives_val (exec_alloc_y rfl en_zero rfl) ⟨⟨_, _, by simp [Rz.upd], hX.size, Box.made _ _ _, En.zeroC_size⟩, hX.alloc hX.size _, fun j _ _ _ _ h => evV_below h (one_below _ _), fun h6 h7 => ?_⟩
      obtain ⟨B, e7, _, hB⟩ := hV 7 (by omega) (by omega) (by simpa [Rj.also] using h7)
      have hl := hB.lt
      show Value.pointer (some ⟨X.heap.size, 0, none⟩) ≠ vm 7
      rw [e7]
      intro e
      injection e with e; injection e with e; injection e with e; omega
    · intro S vm X hX hSi hS hV hD
      refine gives_val (exec_alloc_y rfl en_zero rfl) ⟨⟨_, by simp [Rz.upd], hX.size, Box.made _ _ _⟩, hX.alloc hX.size _, fun j _ _ _ _ h => evV_below h (one_below _ _), fun h6 h7 => ?_⟩
      obtain ⟨B, old, e7, _, hB, _⟩ := hV 6 (by omega) (by omega) (by simpa [Rj.also] using h6)
      have hl := hB.lt
      show vm 6 ≠ Value.pointer (some ⟨X.heap.size, 0, none⟩)
      rw [e7]
      intro e
      injection e with e; injection e with e; injection e with e; omega
    · intro S vm X hX hSi hS hV hD
      obtain ⟨B, old, e6, hbB, hB, hs⟩ := hV 6 (by omega) (by omega) (hS 6 (by omega) (by omega) (by kernel_rfl))
      obtain ⟨S5, e2, hS5⟩ := hV 2 (by omega) (by omega) (hS 2 (by omega) (by omega) (by kernel_rfl))
      refine gives_skip (exec_store_y (B := B) (cs := En.cells ⟨0, [], En.in0⟩ (.slice (some ⟨S5, 0, none⟩) 1 1)) rfl ?_ ?_ hB en_info hs (En.cells_one _ _ rfl)) ⟨⟨B, S5, by simpa [Rz.upd] using e6, hbB, hB.row _, hS5.row_far (ev_apart hS5 hB) _⟩, Below.setRow' hX hbB _, fun j h1 h2 h3 h4 h => evV_row h e6 hB (En.cells_size _ _) (fun e => hD (hS 6 (by omega) (by omega) (by kernel_rfl)) (by rw [← e]; exact h4)) h3, fun h6 h7 => by simpa [Rz.upd, Rj.also] using hD (by simpa [Rj.also] using h6) (by simpa [Rj.also] using h7)⟩
      · simp only [Rz.putAll]
        rw [Rz.put_none, Rz.put_other (by decide), Rz.put_same (by simp only [Rz.put_size, hAs]; decide)]
        exact e6
      · simp only [Rz.putAll]
        rw [Rz.put_none, Rz.put_other (by decide), Rz.put_other (by decide), Rz.put_other (by decide), Rz.put_other (by decide), Rz.put_other (by decide), Rz.put_same (by simp only [Rz.put_size, hAs]; decide)]
        exact e2
  · intro S vm X hX hS hV hD
    have hne := hD (hS 6 (by omega) (by omega)) (hS 7 (by omega) (by omega))
    obtain ⟨B5, S5, e6, hb5, hB5, hS5⟩ := hV 8 (by omega) (by omega)
    obtain ⟨B6, e7, hb6, hB6⟩ := hV 7 (by omega) (by omega)
    obtain ⟨S6, e5, hS6⟩ := hV 5 (by omega) (by omega)
    clear hS hV hD
    simp only [Rz.putAll, Nat.reduceAdd, e6, e7, e5]
    rw [e6, e7] at hne
    have n56 : B5 ≠ B6 := fun e => hne (by rw [e])
    clear hne
    generalize vm 1 = v1
    generalize vm 2 = v2
    generalize vm 3 = v3
    generalize vm 4 = v4
    generalize vm 8 = v8
    have P1 := Lib.hid (hB5.row_far n56 (En.cells ⟨0, [], En.in0⟩ (.slice (some ⟨S6, 0, none⟩) 1 1)))
    have Q1 := Lib.hid (hB6.row (En.cells ⟨0, [], En.in0⟩ (.slice (some ⟨S6, 0, none⟩) 1 1)))
    have A1 := Lib.hid (hS5.row_far (ev_apart hS5 hB6) (En.cells ⟨0, [], En.in0⟩ (.slice (some ⟨S6, 0, none⟩) 1 1)))
    have C1 := Lib.hid (hS6.row_far (ev_apart hS6 hB6) (En.cells ⟨0, [], En.in0⟩ (.slice (some ⟨S6, 0, none⟩) 1 1)))
    have E1 := Lib.hid ((HP.out X hX).row_far (ev_apart (HP.out X hX) hB6) (En.cells ⟨0, [], En.in0⟩ (.slice (some ⟨S6, 0, none⟩) 1 1)))
    have F1 := Lib.hid ((HQ.out X hX).row_far (ev_apart (HQ.out X hX) hB6) (En.cells ⟨0, [], En.in0⟩ (.slice (some ⟨S6, 0, none⟩) 1 1)))
    have K1 := Lib.hid (Below.setRow' (K0.out.trans (hX.mono (by rw [VS]; omega))) (by rw [VS] at hb6; omega : w.heap.size ≤ B6) (En.cells ⟨0, [], En.in0⟩ (.slice (some ⟨S6, 0, none⟩) 1 1)))
    have X6 := Lib.hid hB6
    clear hB5 hB6 hS5 hS6 hX HP HQ hb5 hb6 e6 e7 e5 n56
    simp only [Act.put, List.setIfInBounds_toArray, List.set_cons_succ, List.set_cons_zero]
    refine blk_gate (t := 60) (size := 26) rfl rfl en_info ?_
    refine StoreBlk.mk (B := B6) (cs := En.cells ⟨0, [], En.in0⟩ (.slice (some ⟨S6, 0, none⟩) 1 1)) rfl rfl X6.out ?_ (En.cells_size _ _) En.zeroC_size ?_
    · exact En.cells_one _ _ rfl
    generalize X.setRow B6 (En.cells ⟨0, [], En.in0⟩ (.slice (some ⟨S6, 0, none⟩) 1 1)) = Y at *
    clear X6
    by_cases h1 : En.Ok ⟨0, [⟨ak, az, ag, ap⟩], En.in0⟩
    · by_cases h2 : En.Ok ⟨0, [⟨bk, bz, bg, bp⟩], En.in0⟩
      · have hev1 := En.row1.1 h1.row
        have hev2 := En.row1.1 h2.row
        have h12 : En.Ok ⟨0, [⟨ak, az, ag, ap⟩, ⟨bk, bz, bg, bp⟩], En.in0⟩ ↔ (ak = bk ∧ az < bz) ∨ (ak = 2 ∧ bk = 1) := ⟨fun h => (En.row2 hev1 hev2).1 h.row, fun h => ⟨h1.frame, (En.row2 hev1 hev2).2 h, h1.ins⟩⟩
        have hk1 := hev1.1
        have hk2 := hev2.1
        dsimp only at hk1 hk2
        rw [decide_eq_true h1] at cm1
        rw [decide_eq_true h2] at cm2
        have H12 := Lib.hid h12
        have HK1 := Lib.hid hk1
        have HK2 := Lib.hid hk2
        clear h1 h2 hev1 hev2 h12 hk1 hk2 VS P0 Q0 K0 s3
        go_upto_region 4 with (first | ((with_reducible refine en_load rfl rfl ?_); apply LoadEn.mk rfl; (focus (with_reducible exact P1.out)); dsimp only) | ((with_reducible refine en_load_g ?_ rfl ?_); (focus first | rfl | kernel_rfl | simp [Region.wanted, yielded]); apply LoadEn.mk rfl; (focus (with_reducible exact Q2.out)); dsimp only) | (go_at_call 28; ((with_reducible refine ((cm1 _ _ A1.out).out).mono ?_); rintro r w2 ⟨rfl, hb⟩; have Q2 := Lib.hid (Q1.out.below hb Q1.out.lt); have C2 := Lib.hid (C1.out.below hb C1.out.lt); have E2 := Lib.hid (E1.out.below hb E1.out.lt); have F2 := Lib.hid (F1.out.below hb F1.out.lt); have K2 := Lib.hid (K1.out.trans (hb.mono K1.out.size)); clear hb cm1)) | (go_at_call 28; ((with_reducible refine ((cm2 _ _ C2.out).out).mono ?_); rintro r w3 ⟨rfl, hb⟩; have E3 := Lib.hid (E2.out.below hb E2.out.lt); have F3 := Lib.hid (F2.out.below hb F2.out.lt); have K3 := Lib.hid (K2.out.trans (hb.mono K2.out.size)); clear hb cm2)))
        have ec := E3.out.cell
        have fc := F3.out.cell
        have s3 := ev_slice2 ak az ag ap bk bz bg bp w3
        go_upto_region 5 with (first | (with_reducible refine alloc_en rfl rfl ?_) | (refine wpList_build_is rfl (t := 60) rfl rfl (ev_built _ _ _) ?_) | (with_reducible refine en_store_new rfl rfl rfl rfl En.zeroC_size rfl ?_))
        have M4 := Lib.hid (Box.made_at (n := w3.heap.size + 1) (w3.alloc (.cells #[.int .i64 ak, .int .i64 az, .int .i64 ag, .int .i64 ap, .int .i64 bk, .int .i64 bz, .int .i64 bg, .int .i64 bp] 71)) 60 (En.cells ⟨0, [], En.in0⟩ (.slice (some ⟨w3.heap.size, 0, none⟩) 2 2)) (by simp))
        have L4 := Lib.hid (show Box ((w3.alloc (.cells #[.int .i64 ak, .int .i64 az, .int .i64 ag, .int .i64 ap, .int .i64 bk, .int .i64 bz, .int .i64 bg, .int .i64 bp] 71)).alloc (.cells (En.cells ⟨0, [], En.in0⟩ (.slice (some ⟨w3.heap.size, 0, none⟩) 2 2)) 60)) w3.heap.size 71 (En.evCells [⟨ak, az, ag, ap⟩, ⟨bk, bz, bg, bp⟩]).toArray from (Box.made w3 71 #[.int .i64 ak, .int .i64 az, .int .i64 ag, .int .i64 ap, .int .i64 bk, .int .i64 bz, .int .i64 bg, .int .i64 bp]).alloc _)
        have E4 := Lib.hid ((E3.out.alloc (.cells #[.int .i64 ak, .int .i64 az, .int .i64 ag, .int .i64 ap, .int .i64 bk, .int .i64 bz, .int .i64 bg, .int .i64 bp] 71)).alloc (.cells (En.cells ⟨0, [], En.in0⟩ (.slice (some ⟨w3.heap.size, 0, none⟩) 2 2)) 60))
        have F4 := Lib.hid ((F3.out.alloc (.cells #[.int .i64 ak, .int .i64 az, .int .i64 ag, .int .i64 ap, .int .i64 bk, .int .i64 bz, .int .i64 bg, .int .i64 bp] 71)).alloc (.cells (En.cells ⟨0, [], En.in0⟩ (.slice (some ⟨w3.heap.size, 0, none⟩) 2 2)) 60))
        have K4 := Lib.hid (K3.out.trans ((two_below' w3 (.cells #[.int .i64 ak, .int .i64 az, .int .i64 ag, .int .i64 ap, .int .i64 bk, .int .i64 bz, .int .i64 bg, .int .i64 bp] 71) (.cells (En.cells ⟨0, [], En.in0⟩ (.slice (some ⟨w3.heap.size, 0, none⟩) 2 2)) 60)).mono K3.out.size))
        generalize (w3.alloc (.cells #[.int .i64 ak, .int .i64 az, .int .i64 ag, .int .i64 ap, .int .i64 bk, .int .i64 bz, .int .i64 bg, .int .i64 bp] 71)).alloc (.cells (En.cells ⟨0, [], En.in0⟩ (.slice (some ⟨w3.heap.size, 0, none⟩) 2 2)) 60) = Z at *
        clear ec fc s3 A1 P1 Q1 C1 E1 F1 K1 Q2 C2 E2 F2 K2 E3 F3 K3
        have e4 := E4.out.cell
        have f4 := F4.out.cell
        have HC := Lib.hid (cm3 w3.heap.size)
        clear cm3
        obtain ⟨d, hd⟩ : ∃ d, d = decide (En.Ok ⟨0, [⟨ak, az, ag, ap⟩, ⟨bk, bz, bg, bp⟩], En.in0⟩) := ⟨_, rfl⟩
        rw [← hd] at HC
        have hd2 : d = decide ((ak = bk ∧ az < bz) ∨ (ak = 2 ∧ bk = 1)) := by rw [hd]; exact decide_eq_decide.2 H12.out
        clear hd H12
        rcases HK1.out with rfl | rfl <;> rcases HK2.out with rfl | rfl <;> by_cases hz : az < bz
        · have hv : d = true := by rw [hd2]; exact decide_eq_true (by omega)
          subst hv
          clear hd2 HK1 HK2
          go_wp2_with (first | (go_at_call 25; ((with_reducible refine ((ct _).out).mono ?_); rintro r w5 ⟨rfl, hb⟩; have M5 := Lib.hid (M4.out.below hb M4.out.lt); have L5 := Lib.hid (L4.out.below hb L4.out.lt); have K5 := Lib.hid (K4.out.trans (hb.mono K4.out.size)); clear hb)) | ((with_reducible refine en_load_g ?_ rfl ?_); (focus first | rfl | kernel_rfl | simp [Region.wanted, yielded]); apply LoadEn.mk rfl; (focus (with_reducible exact M5.out)); dsimp only) | (go_at_call 28; ((with_reducible refine ((HC.out _ L5.out).out).mono ?_); rintro r w6 ⟨rfl, hb⟩; have K6 := Lib.hid (K5.out.trans (hb.mono K5.out.size)); clear hb)))
          go_ret
          exact ⟨ret_bool (by simp), K6.out⟩
        · have hv : d = false := by rw [hd2]; exact decide_eq_false (by omega)
          subst hv
          clear hd2 HK1 HK2
          go_wp2_with (first | (go_at_call 25; ((with_reducible refine ((ct _).out).mono ?_); rintro r w5 ⟨rfl, hb⟩; have M5 := Lib.hid (M4.out.below hb M4.out.lt); have L5 := Lib.hid (L4.out.below hb L4.out.lt); have K5 := Lib.hid (K4.out.trans (hb.mono K4.out.size)); clear hb)) | ((with_reducible refine en_load_g ?_ rfl ?_); (focus first | rfl | kernel_rfl | simp [Region.wanted, yielded]); apply LoadEn.mk rfl; (focus (with_reducible exact M5.out)); dsimp only) | (go_at_call 28; ((with_reducible refine ((HC.out _ L5.out).out).mono ?_); rintro r w6 ⟨rfl, hb⟩; have K6 := Lib.hid (K5.out.trans (hb.mono K5.out.size)); clear hb)))
          go_ret
          exact ⟨ret_bool (by simp), K6.out⟩
        · have hv : d = true := by rw [hd2]; exact decide_eq_true (by omega)
          subst hv
          clear hd2 HK1 HK2
          go_wp2_with (first | (go_at_call 25; ((with_reducible refine ((ct _).out).mono ?_); rintro r w5 ⟨rfl, hb⟩; have M5 := Lib.hid (M4.out.below hb M4.out.lt); have L5 := Lib.hid (L4.out.below hb L4.out.lt); have K5 := Lib.hid (K4.out.trans (hb.mono K4.out.size)); clear hb)) | ((with_reducible refine en_load_g ?_ rfl ?_); (focus first | rfl | kernel_rfl | simp [Region.wanted, yielded]); apply LoadEn.mk rfl; (focus (with_reducible exact M5.out)); dsimp only) | (go_at_call 28; ((with_reducible refine ((HC.out _ L5.out).out).mono ?_); rintro r w6 ⟨rfl, hb⟩; have K6 := Lib.hid (K5.out.trans (hb.mono K5.out.size)); clear hb)))
          go_ret
          exact ⟨ret_bool (by simp), K6.out⟩
        · have hv : d = true := by rw [hd2]; exact decide_eq_true (by omega)
          subst hv
          clear hd2 HK1 HK2
          go_wp2_with (first | (go_at_call 25; ((with_reducible refine ((ct _).out).mono ?_); rintro r w5 ⟨rfl, hb⟩; have M5 := Lib.hid (M4.out.below hb M4.out.lt); have L5 := Lib.hid (L4.out.below hb L4.out.lt); have K5 := Lib.hid (K4.out.trans (hb.mono K4.out.size)); clear hb)) | ((with_reducible refine en_load_g ?_ rfl ?_); (focus first | rfl | kernel_rfl | simp [Region.wanted, yielded]); apply LoadEn.mk rfl; (focus (with_reducible exact M5.out)); dsimp only) | (go_at_call 28; ((with_reducible refine ((HC.out _ L5.out).out).mono ?_); rintro r w6 ⟨rfl, hb⟩; have K6 := Lib.hid (K5.out.trans (hb.mono K5.out.size)); clear hb)))
          go_ret
          exact ⟨ret_bool (by simp), K6.out⟩
        · have hv : d = false := by rw [hd2]; exact decide_eq_false (by omega)
          subst hv
          clear hd2 HK1 HK2
          go_wp2_with (first | (go_at_call 25; ((with_reducible refine ((ct _).out).mono ?_); rintro r w5 ⟨rfl, hb⟩; have M5 := Lib.hid (M4.out.below hb M4.out.lt); have L5 := Lib.hid (L4.out.below hb L4.out.lt); have K5 := Lib.hid (K4.out.trans (hb.mono K4.out.size)); clear hb)) | ((with_reducible refine en_load_g ?_ rfl ?_); (focus first | rfl | kernel_rfl | simp [Region.wanted, yielded]); apply LoadEn.mk rfl; (focus (with_reducible exact M5.out)); dsimp only) | (go_at_call 28; ((with_reducible refine ((HC.out _ L5.out).out).mono ?_); rintro r w6 ⟨rfl, hb⟩; have K6 := Lib.hid (K5.out.trans (hb.mono K5.out.size)); clear hb)))
          go_ret
          exact ⟨ret_bool (by simp), K6.out⟩
        · have hv : d = false := by rw [hd2]; exact decide_eq_false (by omega)
          subst hv
          clear hd2 HK1 HK2
          go_wp2_with (first | (go_at_call 25; ((with_reducible refine ((ct _).out).mono ?_); rintro r w5 ⟨rfl, hb⟩; have M5 := Lib.hid (M4.out.below hb M4.out.lt); have L5 := Lib.hid (L4.out.below hb L4.out.lt); have K5 := Lib.hid (K4.out.trans (hb.mono K4.out.size)); clear hb)) | ((with_reducible refine en_load_g ?_ rfl ?_); (focus first | rfl | kernel_rfl | simp [Region.wanted, yielded]); apply LoadEn.mk rfl; (focus (with_reducible exact M5.out)); dsimp only) | (go_at_call 28; ((with_reducible refine ((HC.out _ L5.out).out).mono ?_); rintro r w6 ⟨rfl, hb⟩; have K6 := Lib.hid (K5.out.trans (hb.mono K5.out.size)); clear hb)))
          go_ret
          exact ⟨ret_bool (by simp), K6.out⟩
        · have hv : d = true := by rw [hd2]; exact decide_eq_true (by omega)
          subst hv
          clear hd2 HK1 HK2
          go_wp2_with (first | (go_at_call 25; ((with_reducible refine ((ct _).out).mono ?_); rintro r w5 ⟨rfl, hb⟩; have M5 := Lib.hid (M4.out.below hb M4.out.lt); have L5 := Lib.hid (L4.out.below hb L4.out.lt); have K5 := Lib.hid (K4.out.trans (hb.mono K4.out.size)); clear hb)) | ((with_reducible refine en_load_g ?_ rfl ?_); (focus first | rfl | kernel_rfl | simp [Region.wanted, yielded]); apply LoadEn.mk rfl; (focus (with_reducible exact M5.out)); dsimp only) | (go_at_call 28; ((with_reducible refine ((HC.out _ L5.out).out).mono ?_); rintro r w6 ⟨rfl, hb⟩; have K6 := Lib.hid (K5.out.trans (hb.mono K5.out.size)); clear hb)))
          go_ret
          exact ⟨ret_bool (by simp), K6.out⟩
        · have hv : d = false := by rw [hd2]; exact decide_eq_false (by omega)
          subst hv
          clear hd2 HK1 HK2
          go_wp2_with (first | (go_at_call 25; ((with_reducible refine ((ct _).out).mono ?_); rintro r w5 ⟨rfl, hb⟩; have M5 := Lib.hid (M4.out.below hb M4.out.lt); have L5 := Lib.hid (L4.out.below hb L4.out.lt); have K5 := Lib.hid (K4.out.trans (hb.mono K4.out.size)); clear hb)) | ((with_reducible refine en_load_g ?_ rfl ?_); (focus first | rfl | kernel_rfl | simp [Region.wanted, yielded]); apply LoadEn.mk rfl; (focus (with_reducible exact M5.out)); dsimp only) | (go_at_call 28; ((with_reducible refine ((HC.out _ L5.out).out).mono ?_); rintro r w6 ⟨rfl, hb⟩; have K6 := Lib.hid (K5.out.trans (hb.mono K5.out.size)); clear hb)))
          go_ret
          exact ⟨ret_bool (by simp), K6.out⟩
      · rw [decide_eq_true h1] at cm1
        rw [decide_eq_false h2] at cm2
        clear h1 h2 VS P0 Q0 K0 s3 cm3
        go_wp2_with (first | ((with_reducible refine en_load rfl rfl ?_); apply LoadEn.mk rfl; (focus (with_reducible exact P1.out)); dsimp only) | ((with_reducible refine en_load_g ?_ rfl ?_); (focus first | rfl | kernel_rfl | simp [Region.wanted, yielded]); apply LoadEn.mk rfl; (focus (with_reducible exact Q2.out)); dsimp only) | (go_at_call 28; ((with_reducible refine ((cm1 _ _ A1.out).out).mono ?_); rintro r w2 ⟨rfl, hb⟩; have Q2 := Lib.hid (Q1.out.below hb Q1.out.lt); have C2 := Lib.hid (C1.out.below hb C1.out.lt); have K2 := Lib.hid (K1.out.trans (hb.mono K1.out.size)); clear hb cm1)) | (go_at_call 28; ((with_reducible refine ((cm2 _ _ C2.out).out).mono ?_); rintro r w3 ⟨rfl, hb⟩; have K3 := Lib.hid (K2.out.trans (hb.mono K2.out.size)); clear hb cm2)) | (go_at_call 25; ((with_reducible refine ((ct _).out).mono ?_); rintro r w5 ⟨rfl, hb⟩; have K5 := Lib.hid (K3.out.trans (hb.mono K3.out.size)); clear hb)))
        go_ret
        exact ⟨rfl, K5.out⟩
    · rw [decide_eq_false h1] at cm1
      clear h1 VS P0 Q0 K0 s3 cm3 cm2
      go_wp2_with (first | ((with_reducible refine en_load rfl rfl ?_); apply LoadEn.mk rfl; (focus (with_reducible exact P1.out)); dsimp only) | (go_at_call 28; ((with_reducible refine ((cm1 _ _ A1.out).out).mono ?_); rintro r w2 ⟨rfl, hb⟩; have K2 := Lib.hid (K1.out.trans (hb.mono K1.out.size)); clear hb cm1)) | (go_at_call 25; ((with_reducible refine ((ct _).out).mono ?_); rintro r w5 ⟨rfl, hb⟩; have K5 := Lib.hid (K2.out.trans (hb.mono K2.out.size)); clear hb)))
      go_ret
      exact ⟨rfl, K5.out⟩
end Go.Proofs.Ytghomofakpjglaa
