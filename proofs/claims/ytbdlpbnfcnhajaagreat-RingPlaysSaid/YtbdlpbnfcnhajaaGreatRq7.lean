/-
Several texts in one: Hq Hr Hs Ht Hu Hp Hoff Ps Fd.
-/
import Derived.Test.YtbdlpbnfcnhajaaGreatRq6
set_option maxRecDepth 100000
set_option maxHeartbeats 8000000
set_option linter.unusedVariables false
set_option linter.unusedSimpArgs false
namespace Go.Proofs.YtbdlpbnfcnhajaaGreat
open Go.RowKit Go.Shelf
structure qaP (b B : Nat) (A : Option Addr) (c : Nat) (g : Gm.G) (w : World) : Prop where
 game : Box w B 33 (Gm.cells g (.slice A g.qaa.length c))
 own : w.ownsRow b 72 6 (.slice A g.qaa.length c) g.qaa.length (Gm.qab g.qaa)
section
variable {b B c : Nat} {A : Option Addr} {g g' : Gm.G} {w w' : World}
theorem qaP.has (h : qaP b B A c g w) : Has b B g w := ⟨A, c, h.game, h.own⟩
theorem qaP.alloc (h : qaP b B A c g w) (o : Obj) : qaP b B A c g (w.alloc o) := ⟨h.game.alloc o, h.own.alloc o⟩
theorem qaP.drew (h : qaP b B A c g w) : qaP b B A c g w.drew := ⟨h.game.drew, h.own.drew⟩
theorem qaP.call (h : qaP b B A c g w) (hb : Below w.heap.size w w') : qaP b B A c g w' := ⟨h.game.below hb h.game.lt, own_below h.own hb (Nat.le_refl _)⟩
theorem qaP.qjA {p : Nat} {t : TypeId} {cs : Array Value} (h : qaP b B A c g w) (hne : p ≠ B) (hp : Box w p t cs) (ht : t ≠ 72) (cs' : Array Value) : qaP b B A c g (w.setRow p cs') :=
 ⟨h.game.qa4 (fun e => hne e.symm) cs', qbf h.own (hp.qaO h.own (fun e => ht e.symm)) cs'⟩
theorem qaP.off {p : Addr} {t : TypeId} {cs : Array Value} (h : qaP b B A c g w) (hne : p.block ≠ B) (hp : Box w p.block t cs) (ht : t ≠ 72) (u : Value) : qaP b B A c g (w.setCell p u) :=
 ⟨h.game.far (fun e => hne e.symm) u, ownsRow_setCell_other h.own (hp.qaO h.own (fun e => ht e.symm)) u⟩
theorem qaP.put (h : qaP b B A c g w) (hs : g'.qaa = g.qaa) (hB : ∀ s, Box w B 33 (Gm.cells g s) -> Box w' B 33 (Gm.cells g' s)) (hk : ∀ k, k ≠ B -> w'.heap[k]? = w.heap[k]?) : qaP b B A c g' w' := by
 obtain ⟨h, h'⟩ := h
 refine ⟨by rw [hs]; exact hB _ h, ?_⟩
 rw [hs]
 have hne := h.qaO h' (by decide)
 obtain ⟨hl, e | ⟨gg, cap, cur, hv, hbg, hgg, hr⟩⟩ := h'
 · exact ⟨hl, .inl e⟩
 · refine ⟨hl, .inr ⟨gg, cap, cur, hv, hbg, (hk gg (fun e => hne (by rw [hv, e]; rfl))).trans hgg, hr⟩⟩
theorem qaP.stored (h : qaP b B A c g w) {k : Nat} (hk : k < 8) (s : Gm.Ship) : qaP b B A c { g with ship := Gm.upd g.ship k s } (stored w B k s) :=
 h.put rfl (fun _ hB => qdF hB hk s) (fun j hj => qem s j hj)
theorem qaP.field {k : Nat} (h : qaP b B A c g w) {t' : Gm.Ship} {i : Nat} {u : Value} (he : ∀ s, (Gm.cells (qb6 g k (g.ship k)) s).setIfInBounds i u = Gm.cells (qb6 g k t') s) : qaP b B A c (qb6 g k t') (w.setCell ⟨B, i, none⟩ u) :=
 h.put rfl (fun s hB => he s ▸ (by rw [qb6, Gm.qdX]; exact hB.put i u)) (fun j hj => heap_setCell_other _ _ j _ hj)
end
theorem qoW (g : Gm.G) (b B : Nat) (A : Option Addr) (c : Nat) (sc : Int) (x y d : Int) (w : World) (hbB : b <= B) (h : qaP b B A c g w) (hd : 0 <= g.dice /\ g.dice <= 18446744073709551615)
 (hx : Dn.share (Dn.next g.dice) 16777216 = x) (hy : Dn.share (Dn.next (Dn.next g.dice)) 16777216 = y) (hdd : Dn.next (Dn.next g.dice) = d) :
 Calls Tryz.prog 126 #[.pointer (some ⟨B, 0, none⟩), .int .i64 sc] w fun e w' => e = .returned (.agg #[.bool true, .int .i32 x, .int .i32 y, .int .i32 0, .int .i32 0, .int .i64 0, .int .i64 sc]) /\ qaP b B A c { g with dice := d } w' /\ Keep b B w w' := by
 have c1 := fun X => qh (qjr g.dice hd X)
 rw [hx, hy, hdd] at c1
 have HH := qh (h.alloc (.cells #[.bool false, .int .i32 0, .int .i32 0, .int .i32 0, .int .i32 0, .int .i64 0, .int .i64 0] 29))
 have HK := qh ((Keep.refl hbB w).alloc (.cells #[.bool false, .int .i32 0, .int .i32 0, .int .i32 0, .int .i32 0, .int .i64 0, .int .i64 0] 29))
 have hBs := h.game.lt
 have bT : Box (w.alloc (.cells #[.bool false, .int .i32 0, .int .i32 0, .int .i32 0, .int .i32 0, .int .i64 0, .int .i64 0] 29)) w.heap.size 29 #[.bool false, .int .i32 0, .int .i32 0, .int .i32 0, .int .i32 0, .int .i64 0, .int .i64 0] := Box.made _ _ _
 have BT := qh bT
 have BG := qh (h.game.alloc (.cells #[.bool false, .int .i32 0, .int .i32 0, .int .i32 0, .int .i32 0, .int .i64 0, .int .i64 0] 29))
 have hc := BG.out.cell
 have e1 := Gm.qbC g (.slice A g.qaa.length c)
 clear bT h hx hy hdd
 go_enter Tryz.func126, Tryz.ntmps126
 go_wp2_with (first | (go_at_call 143; ((with_reducible refine ((c1 _).out).mono ?_); rintro e w1 ⟨rfl, hb⟩; have D1 := BG.out.below hb (by simp <;> omega); have T1 := BT.out.below hb (by simp <;> omega); have k1 := D1.cell; have f1 := D1.free; have H1 := qh (HH.out.call hb); have K1 := qh ((HK.out.call hb).put 1 (.int .u64 d)); have ne1 : w.heap.size ≠ B := (by omega); have T2 := qh (T1.far (p := ⟨B, 1, none⟩) ne1 (.int .u64 d)); clear D1 T1 hb ne1)) | (refine qaM rfl (t := 29) (vs := [(0, .bool true), (1, .int .i32 x), (2, .int .i32 y), (6, .int .i64 sc)]) rfl rfl (qhV _ _ _) ?_) | ((with_reducible refine qc7 (t := 29) rfl rfl qd1 ?_); apply qcf.mk rfl rfl; exact T2.out; (focus (simp [Value.oneCell'])); (focus rfl); (focus rfl)))
 refine bodyPost_ret (v := .agg #[.bool true, .int .i32 x, .int .i32 y, .int .i32 0, .int .i32 0, .int .i64 0, .int .i64 sc]) ?_ ?_ ?_
 · exact results_cell_row rfl _ _ _ _ #[.bool true, .int .i32 x, .int .i32 y, .int .i32 0, .int .i32 0, .int .i64 0, .int .i64 sc] (0, 0) _ rfl (Box.row T2.out _).is Tryz.underlying29 rfl qd1
 · rfl
 · refine ⟨rfl, ?_, K1.out.qf3 (Nat.le_refl _) _⟩
   have h2 : qaP b B A c { g with dice := d } (w1.setCell ⟨B, 1, none⟩ (.int .u64 d)) := H1.out.put rfl (fun _ hB => qf6 hB d) (fun j hj => heap_setCell_other _ _ j _ hj)
   exact h2.qjA (by omega) T2.out (by decide) _
theorem qpb (g : Gm.G) (b B : Nat) (A : Option Addr) (c kh o : Nat) (x y d : Int) (w : World) (hbB : b <= B) (hk : kh < 8) (ho : o < 8) (h : qaP b B A c g w) (hd : 0 <= g.dice /\ g.dice <= 18446744073709551615) (hs : ∀ i, i < 8 -> 0 <= (g.ship i).score /\ (g.ship i).score <= 1073741824)
 (hx : Dn.share (Dn.next g.dice) 16777216 = x) (hy : Dn.share (Dn.next (Dn.next g.dice)) 16777216 = y) (hdd : Dn.next (Dn.next g.dice) = d) :
 Calls Tryz.prog 137 #[.pointer (some ⟨B, 0, none⟩), .pointer (some ⟨B, 2 + kh * 7, none⟩), .int .i64 o] w fun e w' => e = .returned (.tuple #[]) /\ qaP b B A c { g with dice := d, ship := Gm.more (Gm.upd g.ship kh ⟨true, x, y, 0, 0, 0, (g.ship kh).score⟩) o } w' /\ Keep b B w w' := by
 have cp := fun sc X (hX : qaP b B A c g X) => qh (qoW g b B A c sc x y d X hbB hX hd hx hy hdd)
 have hc := h.game.cell
 have s6 := Gm.qae g (.slice A g.qaa.length c) kh 6 hk (by omega)
 simp only [Gm.Ship.cells, List.getElem?_cons_zero, List.getElem?_cons_succ] at s6
 obtain ⟨t, ht⟩ : ∃ t, t = g.ship kh := ⟨_, rfl⟩
 have q0 : ∀ s, (Gm.cells { g with dice := d } s)[2 + kh * 7]? = some (.bool t.on) := fun s => (Gm.qae { g with dice := d } s kh 0 hk (by omega)).trans (by rw [ht]; rfl)
 have q1 : ∀ s, (Gm.cells { g with dice := d } s)[2 + kh * 7 + 1]? = some (.int .i32 t.x) := fun s => (Gm.qae { g with dice := d } s kh 1 hk (by omega)).trans (by rw [ht]; rfl)
 have q2 : ∀ s, (Gm.cells { g with dice := d } s)[2 + kh * 7 + 2]? = some (.int .i32 t.y) := fun s => (Gm.qae { g with dice := d } s kh 2 hk (by omega)).trans (by rw [ht]; rfl)
 have q3 : ∀ s, (Gm.cells { g with dice := d } s)[2 + kh * 7 + 3]? = some (.int .i32 t.vx) := fun s => (Gm.qae { g with dice := d } s kh 3 hk (by omega)).trans (by rw [ht]; rfl)
 have q4 : ∀ s, (Gm.cells { g with dice := d } s)[2 + kh * 7 + 4]? = some (.int .i32 t.vy) := fun s => (Gm.qae { g with dice := d } s kh 4 hk (by omega)).trans (by rw [ht]; rfl)
 have q5 : ∀ s, (Gm.cells { g with dice := d } s)[2 + kh * 7 + 5]? = some (.int .i64 t.cool) := fun s => (Gm.qae { g with dice := d } s kh 5 hk (by omega)).trans (by rw [ht]; rfl)
 have q6 : ∀ s, (Gm.cells { g with dice := d } s)[2 + kh * 7 + 6]? = some (.int .i64 t.score) := fun s => (Gm.qae { g with dice := d } s kh 6 hk (by omega)).trans (by rw [ht]; rfl)
 have ho8 : (o : Int) < 8 := by omega
 have HH := qh h
 generalize hsc : (g.ship kh).score = sc at s6 ⊢
 clear h ht hx hy hdd
 go_enter Tryz.func137, Tryz.ntmps137
 go_upto_region 1 with (go_at_call 126; ((with_reducible refine ((cp _ _ HH.out).out).mono ?_); rintro e w1 ⟨rfl, H1, K1⟩; have hB1 := H1.game; have c1 := hB1.cell; have f1 := hB1.free; have H2 := qh (H1.stored hk ⟨true, x, y, 0, 0, 0, sc⟩); have K2 := qh (K1.stored (k := kh) ⟨true, x, y, 0, 0, 0, sc⟩); clear H1 K1 hB1 hc))
 have hgen : ∀ W : World, W = stored w1 B kh ⟨true, x, y, 0, 0, 0, sc⟩ -> qaP b B A c { g with dice := d, ship := Gm.upd g.ship kh ⟨true, x, y, 0, 0, 0, sc⟩ } W /\ Keep b B w W := fun W hW => by subst hW; exact ⟨H2.out, K2.out⟩
 obtain ⟨W2, hW2⟩ : ∃ W2, W2 = stored w1 B kh ⟨true, x, y, 0, 0, 0, sc⟩ := ⟨_, rfl⟩
 have hh2 := hgen W2 hW2
 simp only [stored] at hW2
 rw [<- hW2]
 obtain ⟨H3, K3⟩ := hh2
 have hs3 : ∀ i, i < 8 -> 0 <= (Gm.upd g.ship kh ⟨true, x, y, 0, 0, 0, sc⟩ i).score /\ (Gm.upd g.ship kh ⟨true, x, y, 0, 0, 0, sc⟩ i).score <= 1073741824 := fun i hi => by
  have h1 := hs i hi
  have h2 := hs kh hk
  unfold Gm.upd; split
  · dsimp only; rw [<- hsc]; exact h2
  · exact h1
 generalize hF : Gm.upd g.ship kh ⟨true, x, y, 0, 0, 0, sc⟩ = F at H3 hs3
 have FH := qh hF
 have sco := hs3 o ho
 have r0 := Gm.qae { g with dice := d, ship := F } (.slice A g.qaa.length c) o 0 ho (by omega)
 have r6 := Gm.qae { g with dice := d, ship := F } (.slice A g.qaa.length c) o 6 ho (by omega)
 simp only [Gm.Ship.cells, List.getElem?_cons_zero, List.getElem?_cons_succ, Nat.add_zero] at r0 r6
 have hsco := qh (fun u => H3.field (k := o) (t' := { F o with score := u }) (fun s => qi5 { g with dice := d, ship := F } s o (F o) ho u))
 have H3H := qh H3
 have K3H := qh K3
 have k3 := H3.game.cell
 have f3 := H3.game.free
 have FF : Hid (Gm.more F o = if (F o).on = true then Gm.upd F o { F o with score := min ((F o).score + 1) 1073741824 } else F) := qh rfl
 clear H2 K2 hgen hW2 hF H3 K3 c1 f1 q0 q1 q2 q3 q4 q5 q6 hs3 cp HH s6 hs
 cases hon : (F o).on
 · rw [hon] at r0
   have HON := qh hon
   clear hon
   go_wp2
   go_end0
   refine ⟨rfl, ?_, K3H.out⟩
   rw [FH.out, FF.out, if_neg (by rw [HON.out]; simp)]
   exact H3H.out
 · rw [hon] at r0
   have HON := qh hon
   clear hon
   generalize (F o).score = so at *
   have hwrap : IntKind.i64.wrap (so + 1) = so + 1 := by rw [IntKind.wrap_i64]; omega
   by_cases hlt : so + 1 <= 1073741824
   · have MM := qh (Int.min_eq_left hlt)
     go_wp2
     go_end0
     refine ⟨rfl, ?_, K3H.out.put _ _⟩
     rw [FH.out, FF.out, if_pos HON.out, MM.out]
     exact hsco.out _
   · have MM := qh (Int.min_eq_right (show (1073741824 : Int) <= so + 1 by omega))
     have hlt' : ¬ so + 1 <= 1073741824 := hlt
     go_wp2
     go_end0
     refine ⟨rfl, ?_, K3H.out.put _ _⟩
     rw [FH.out, FF.out, if_pos HON.out, MM.out]
     exact hsco.out _
theorem qib (L : List Gm.Shot) (i j : Nat) (hi : i < L.length) (hj : j < 6) (u : Value) (s' : Gm.Shot) (h : L[i].cells.set j u = s'.cells) : (Gm.qab L).set (i * 6 + j) u = Gm.qab (L.set i s') := by
 induction L generalizing i with
 | nil => simp at hi
 | cons a L ih =>
  unfold Gm.qab at *
  match i with
  | 0 =>
   rw [List.set_cons_zero, List.flatMap_cons, List.flatMap_cons, List.set_append_left _ _ (by simp [Gm.Shot.cells]; omega)]
   congr 1
   simpa using h
  | i + 1 =>
   have hlen : a.cells.length = 6 := rfl
   rw [List.set_cons_succ, List.flatMap_cons, List.flatMap_cons, List.set_append_right _ _ (by rw [hlen]; omega), <- ih i (by simpa using hi) (by simpa using h), hlen]
   congr 2
   omega
abbrev flyG (G : Gm.G) (i : Nat) (s : Gm.Shot) : Gm.G := { G with qaa := G.qaa.set i s }
theorem qn8 (G : Gm.G) (i : Nat) (hi : i < G.qaa.length) : flyG G i G.qaa[i] = G := by
 unfold flyG; rw [List.set_getElem_self]
theorem qaP.len {b B c : Nat} {A : Option Addr} {g : Gm.G} {w : World} (h : qaP b B A c g w) (hn : g.qaa.length ≠ 0) : ∃ gs, A = some ⟨gs, 0, none⟩ /\ b <= gs /\ gs < w.heap.size := by
 obtain ⟨_, ⟨_, h0⟩ | ⟨g', cap, cur, hv, hb, hg, _⟩⟩ := h.own
 · exact absurd h0 hn
 · injection hv with hv
   exact ⟨g', hv, hb, (Array.getElem?_eq_some_iff.1 hg).1⟩
section
variable {b B c gs i : Nat} {G : Gm.G} {s : Gm.Shot} {W : World}
theorem qaP.shot (h : qaP b B (some ⟨gs, 0, none⟩) c (flyG G i s) W) (hi : i < G.qaa.length) (j : Nat) (hj : j < 6) : W.cell? ⟨gs, i * 6 + j, none⟩ = s.cells[j]? := by
 have h1 := h.own
 dsimp only at h1
 have hl : (G.qaa.set i s).length = G.qaa.length := by simp
 rw [h1.cellAt (i * 6 + j) (by rw [hl]; omega), Gm.qbq _ i j (by rw [hl]; exact hi) hj]
 simp
theorem qaP.qia (h : qaP b B (some ⟨gs, 0, none⟩) c G W) (j : Nat) : W.frozen? ⟨gs, j, none⟩ = false := h.own.frozenAt j
theorem qaP.apart (h : qaP b B (some ⟨gs, 0, none⟩) c G W) : gs ≠ B := fun e => h.game.qaO h.own (by decide) (by rw [e]; rfl)
theorem qaP.row (h : qaP b B (some ⟨gs, 0, none⟩) c G W) : ∃ cs, Box W gs 72 cs /\ b <= gs := by
 obtain ⟨_, ⟨h0, _⟩ | ⟨g', cap, cur, hv, hb, hg, _⟩⟩ := h.own
 · cases h0
 · injection hv with hv
   injection hv with hv
   injection hv with hv
   subst hv
   exact ⟨cur, ⟨hg⟩, hb⟩
theorem qaP.qpK (h : qaP b B (some ⟨gs, 0, none⟩) c (flyG G i s) W) (hi : i < G.qaa.length) {j : Nat} (hj : j < 6) {u : Value} {s' : Gm.Shot} (he : s.cells.set j u = s'.cells) : qaP b B (some ⟨gs, 0, none⟩) c (flyG G i s') (W.setCell ⟨gs, i * 6 + j, none⟩ u) := by
 have hl : (G.qaa.set i s).length = G.qaa.length := by simp
 have hl' : (G.qaa.set i s').length = G.qaa.length := by simp
 refine ⟨?_, ?_⟩
 · have hg := h.game
   dsimp only at hg ⊢
   rw [hl] at hg
   rw [hl']
   exact hg.far (p := ⟨gs, i * 6 + j, none⟩) (fun e => h.apart e.symm) u
 · have h1 := (h.own.stored (i * 6 + j) u).1
   dsimp only at h1 ⊢
   rw [hl'] 
   rw [hl] at h1
   rw [qib _ i j (by rw [hl]; exact hi) hj u s' (by simpa using he), List.set_set] at h1
   exact h1
end
theorem qiA {f : Nat -> Gm.Ship} {s : Gm.Shot} : ∀ n i, i + n = 8 -> (∀ y ∈ qcR (fun j => (f j).on) n i, Gm.qcr f s y.1 = false) -> Gm.qcP f s n i = -1
 | 0, _, _, _ => rfl
 | n + 1, i, hi, h => by
  cases ho : (f i).on
  · rw [qf4 (on := fun j => (f j).on) ho] at h
    rw [Gm.qcG (by unfold Gm.qcr; rw [ho]; rfl)]
    exact qiA n (i + 1) (by omega) h
  · rw [qeU (on := fun j => (f j).on) (by omega) ho] at h
    rw [Gm.qcG (h ⟨i, by omega, ho⟩ (by simp))]
    exact qiA n (i + 1) (by omega) fun y hy => h y (by simp [hy])
theorem qgP {f : Nat -> Gm.Ship} {s : Gm.Shot} : ∀ n i (pre : List (Slot fun j => (f j).on)) (x : Slot fun j => (f j).on) rest, i + n = 8 -> qcR (fun j => (f j).on) n i = pre ++ x :: rest -> (∀ y ∈ pre, Gm.qcr f s y.1 = false) -> Gm.qcr f s x.1 = true -> Gm.qcP f s n i = (x.1 : Nat)
 | 0, _, pre, x, rest, _, h, _, _ => by
  have h' : ([] : List (Slot fun j => (f j).on)) = pre ++ x :: rest := h
  have := congrArg List.length h'
  simp at this
 | n + 1, i, pre, x, rest, hi, h, hn, hx => by
  cases ho : (f i).on
  · rw [qf4 (on := fun j => (f j).on) ho] at h
    rw [Gm.qcG (by unfold Gm.qcr; rw [ho]; rfl)]
    exact qgP n (i + 1) pre x rest (by omega) h hn hx
  · rw [qeU (on := fun j => (f j).on) (by omega) ho] at h
    cases pre with
    | nil =>
     simp only [List.nil_append, List.cons.injEq] at h
     rw [<- h.1] at hx ⊢
     rw [Gm.qev hx]
    | cons y pre =>
     simp only [List.cons_append, List.cons.injEq] at h
     have hy := hn y (by simp)
     rw [<- h.1] at hy
     rw [Gm.qcG hy]
     exact qgP n (i + 1) pre x rest (by omega) h.2 (fun z hz => hn z (by simp [hz])) hx
def gone (G : Gm.G) (i : Nat) (s : Gm.Shot) : Bool × Gm.G :=
 if (Gm.fly s).left = 0 then (false, flyG G i (Gm.fly s))
 else if Gm.hit G.ship (Gm.fly s) < 0 then (true, flyG G i (Gm.fly s))
 else (false, { flyG G i (Gm.fly s) with dice := Gm.qeM G.dice, ship := Gm.more (Gm.anew G.dice G.ship (Gm.hit G.ship (Gm.fly s)).toNat) s.owner.toNat })
attribute [local go_sem] Oper.semAt_some
structure qbm (b B c gs i P1 P2 P3 : Nat) (w0 : World) (G : Gm.G) (s : Gm.Shot) (r : Bool) (W : World) : Prop where
 has : qaP b B (some ⟨gs, 0, none⟩) c (flyG G i s) W
 p1 : Box W P1 149 #[.pointer (some ⟨B, 0, none⟩)]
 p2 : Box W P2 155 #[.pointer (some ⟨gs, i * 6, none⟩)]
 p3 : Box W P3 4 #[.bool r]
 keep : Keep b B w0 W
section
variable {b B c gs i P1 P2 P3 : Nat} {w0 : World} {G : Gm.G} {s s' : Gm.Shot} {r : Bool} {W W' : World}
theorem qbm.call (h : qbm b B c gs i P1 P2 P3 w0 G s r W) (hb : Below W.heap.size W W') : qbm b B c gs i P1 P2 P3 w0 G s r W' :=
 ⟨h.has.call hb, h.p1.below hb h.p1.lt, h.p2.below hb h.p2.lt, h.p3.below hb h.p3.lt, h.keep.call hb⟩
theorem qbm.drew (h : qbm b B c gs i P1 P2 P3 w0 G s r W) : qbm b B c gs i P1 P2 P3 w0 G s r W.drew := ⟨h.has.drew, h.p1.drew, h.p2.drew, h.p3.drew, h.keep.drew⟩
theorem qbm.alloc (h : qbm b B c gs i P1 P2 P3 w0 G s r W) (o : Obj) : qbm b B c gs i P1 P2 P3 w0 G s r (W.alloc o) := h.call (qac W o)
theorem qbm.put (h : qbm b B c gs i P1 P2 P3 w0 G s r W) (hi : i < G.qaa.length) {j : Nat} (hj : j < 6) {u : Value} (he : s.cells.set j u = s'.cells) : qbm b B c gs i P1 P2 P3 w0 G s' r (W.setCell ⟨gs, i * 6 + j, none⟩ u) := by
 obtain ⟨cs, hr, hbg⟩ := h.has.row
 exact ⟨h.has.qpK hi hj he, h.p1.far (fun e => Box.apart h.p1 hr (by decide) e) u, h.p2.far (fun e => Box.apart h.p2 hr (by decide) e) u, h.p3.far (fun e => Box.apart h.p3 hr (by decide) e) u, h.keep.shot hr hbg⟩
theorem qbm.flag (h : qbm b B c gs i P1 P2 P3 w0 G s r W) (h3 : w0.heap.size <= P3) (r' : Bool) : qbm b B c gs i P1 P2 P3 w0 G s r' (W.setCell ⟨P3, 0, none⟩ (.bool r')) :=
 ⟨h.has.off (p := ⟨P3, 0, none⟩) (Box.apart h.p3 h.has.game (by decide)) h.p3 (by decide) _, h.p1.far (fun e => Box.apart h.p1 h.p3 (by decide) e) _, h.p2.far (fun e => Box.apart h.p2 h.p3 (by decide) e) _, h.p3.put 0 _, h.keep.fresh h3 _⟩
theorem qaP.turned {A : Option Addr} {g : Gm.G} {row : Option Nat} (h : qaP b B A c g W) (hg : W.grownBy W' row) (hr : ∀ r, row = some r -> ∃ o : Obj, W.heap[r]? = some o /\ o.isCells = false) : qaP b B A c g W' := by
 obtain ⟨h, hl, h' | ⟨gg, cap, cur, hv, hbg, hgg, hx⟩⟩ := h
 · exact ⟨h.turned hg hr, hl, .inl h'⟩
 · exact ⟨h.turned hg hr, hl, .inr ⟨gg, cap, cur, hv, hbg, (Box.turned ⟨hgg⟩ hg hr).is, hx⟩⟩
theorem Keep.turned {row : Option Nat} (h : Keep b B w0 W) (hg : W.grownBy W' row) (hr : ∀ r, row = some r -> w0.heap.size <= r) : Keep b B w0 W' :=
 ⟨hg.os.trans h.os, hg.tape.trans h.tape, hg.output.trans h.output, Nat.le_trans h.size hg.size, h.low, fun k hk hc => (hg.block k (Nat.lt_of_lt_of_le hk h.size) (fun e => by have := hr k e.symm; omega)).trans (h.block k hk hc)⟩
theorem qbm.turned {row : Option Nat} (h : qbm b B c gs i P1 P2 P3 w0 G s r W) (hg : W.grownBy W' row) (hr : ∀ r, row = some r -> w0.heap.size <= r /\ ∃ o : Obj, W.heap[r]? = some o /\ o.isCells = false) : qbm b B c gs i P1 P2 P3 w0 G s r W' :=
 ⟨h.has.turned hg fun r e => (hr r e).2, h.p1.turned hg fun r e => (hr r e).2, h.p2.turned hg fun r e => (hr r e).2, h.p3.turned hg fun r e => (hr r e).2, h.keep.turned hg fun r e => (hr r e).1⟩
end
theorem qn3 (G : Gm.G) (b B c gs i o : Nat) (x y vx vy left X Y : Int) (w : World) (hbB : b <= B) (hi : i < G.qaa.length) (h : qaP b B (some ⟨gs, 0, none⟩) c G w) (hs : G.qaa[i] = ⟨o, x, y, vx, vy, left⟩) (ho : o < 8)
 (ok : Gm.qa5 ⟨o, x, y, vx, vy, left⟩) (hsh : ∀ j, j < 8 -> Gm.qaT (G.ship j)) (hd : 0 <= G.dice /\ G.dice <= 18446744073709551615) (hX : Gf.move x vx = X) (hY : Gf.move y vy = Y) (dx dy dd : Int)
 (hdx : Dn.share (Dn.next G.dice) 16777216 = dx) (hdy : Dn.share (Dn.next (Dn.next G.dice)) 16777216 = dy) (hdd : Dn.next (Dn.next G.dice) = dd) :
 Calls Tryz.prog 107 #[.pointer (some ⟨B, 0, none⟩), .pointer (some ⟨gs, i * 6, none⟩)] w fun e w' =>
  (left - 1 = 0 /\ e = .returned (.bool false) /\ qaP b B (some ⟨gs, 0, none⟩) c (flyG G i ⟨o, X, Y, vx, vy, left - 1⟩) w' /\ Keep b B w w') \/
  (left - 1 ≠ 0 /\ Gm.hit G.ship ⟨o, X, Y, vx, vy, left - 1⟩ = -1 /\ e = .returned (.bool true) /\ qaP b B (some ⟨gs, 0, none⟩) c (flyG G i ⟨o, X, Y, vx, vy, left - 1⟩) w' /\ Keep b B w w') \/
  (∃ kh, left - 1 ≠ 0 /\ Gm.hit G.ship ⟨o, X, Y, vx, vy, left - 1⟩ = (kh : Nat) /\ e = .returned (.bool false) /\
   qaP b B (some ⟨gs, 0, none⟩) c { flyG G i ⟨o, X, Y, vx, vy, left - 1⟩ with dice := dd, ship := Gm.more (Gm.upd G.ship kh ⟨true, dx, dy, 0, 0, 0, (G.ship kh).score⟩) o } w' /\ Keep b B w w') := by
 have C0 : qbm b B c gs i w.heap.size (w.heap.size + 1) (w.heap.size + 1 + 1) w G ⟨o, x, y, vx, vy, left⟩ false (((w.alloc (.cells #[.pointer (some ⟨B, 0, none⟩)] 149)).alloc (.cells #[.pointer (some ⟨gs, i * 6, none⟩)] 155)).alloc (.cells #[.bool false] 4)) := by
  refine ⟨?_, ((Box.made w _ _).alloc _).alloc _, (Box.qan _ _ _ (by simp)).alloc _, Box.qan _ _ _ (by simp), ((((Keep.refl hbB w).alloc _).alloc _).alloc _)⟩
  have h' := ((h.alloc (.cells #[.pointer (some ⟨B, 0, none⟩)] 149)).alloc (.cells #[.pointer (some ⟨gs, i * 6, none⟩)] 155)).alloc (.cells #[.bool false] 4)
  rw [<- hs, qn8 G i hi]
  exact h'
 have HC := qh C0
 have OK := qh ok
 have HS := qh hs
 have HSH := qh hsh
 obtain ⟨o1, o2, o3, o4, o5, o6, o7, o8⟩ := ok
 simp only [Gm.inF, Gm.slow] at o1 o2 o3 o4 o5 o6 o7 o8
 have m1 := Gf.qbZ x vx
 have m2 := Gf.qbZ y vy
 have k1 := fun W => qh (qdB x vx (by omega) (by omega) W)
 have k2 := fun W => qh (qdB y vy (by omega) (by omega) W)
 rw [hX] at m1 k1
 rw [hY] at m2 k2
 have hsub : IntKind.i64.wrap (left - 1) = left - 1 := by rw [IntKind.wrap_i64]; omega
 clear C0 h hs hsh hX hY
 refine (callsIn_wide (n := 10)).1 (callsIn_of_wp_marks Tryz.func107 rfl trivial (wpIn_wide.2 ?_) rfl)
 simp only [Tryz.ntmps107, List.size_toArray, List.length_cons, List.length_nil, Nat.reduceAdd, Nat.reduceSub, Array.replicate_succ, Array.replicate_zero, List.push_toArray, List.append_toArray, List.nil_append, List.cons_append]
 go_upto_region 1 with fail
 refine Ry.qaU (by kernel_rfl) [0, 1, 2, 6, 11, 15, 3, 7, 12, 16, 20, 23] (by kernel_rfl) (qbm b B c gs i w.heap.size (w.heap.size + 1) (w.heap.size + 1 + 1) w G ⟨o, x, y, vx, vy, left⟩ false) (qbm b B c gs i w.heap.size (w.heap.size + 1) (w.heap.size + 1 + 1) w G ⟨o, x, y, vx, vy, left⟩ false) (fun W => Box W (w.heap.size + 1) 155 #[.pointer (some ⟨gs, i * 6, none⟩)]) HC.out.drew (fun W hW => ⟨hW, hW.p2⟩) ?_
 repeat (first
  | (apply Ry.qat rfl rfl; focus (intro _; go_simp; first | done | rfl))
  | (apply Ry.qb1 rfl rfl rfl rfl; focus (intro W hW; have y2 := Box.cell hW; clear hW; go_simp; first | done | rfl))
  | (apply Ry.qbR rfl rfl rfl rfl; focus (intro W hW; have z0 := hW.has.shot hi 0 (by omega); have z1 := hW.has.shot hi 1 (by omega); have z2 := hW.has.shot hi 2 (by omega); have z3 := hW.has.shot hi 3 (by omega); have z4 := hW.has.shot hi 4 (by omega); have z5 := hW.has.shot hi 5 (by omega); simp only [Gm.Shot.cells, List.getElem?_cons_zero, List.getElem?_cons_succ, Nat.add_zero] at z0 z1 z2 z3 z4 z5; clear hW; go_simp; first | done | rfl))
  | (apply Ry.qbs (C' := qbm b B c gs i w.heap.size (w.heap.size + 1) (w.heap.size + 1 + 1) w G ⟨o, x, y, vx, vy, left⟩ false) rfl; (focus (intro W hW; clear hW; go_simp; first | done | rfl | exact ⟨rfl, rfl⟩)); (focus (intro W hW; first | ((with_reducible refine (k1 W).out.mono ?_); exact fun e w' h => ⟨h.1, hW.call h.2⟩) | ((with_reducible refine (k2 W).out.mono ?_); exact fun e w' h => ⟨h.1, hW.call h.2⟩))); (focus (exact fun W hW => ⟨hW, hW.p2⟩))))
 refine Ry.qby rfl rfl (C' := qbm b B c gs i w.heap.size (w.heap.size + 1) (w.heap.size + 1 + 1) w G ⟨o, X, y, vx, vy, left⟩ false) (D' := qbm b B c gs i w.heap.size (w.heap.size + 1) (w.heap.size + 1 + 1) w G ⟨o, X, y, vx, vy, left⟩ false) (fun W hW => ⟨_, ?_, hW.put hi (j := 1) (by omega) rfl⟩) (fun W hW => ⟨hW, hW.p2⟩) ?_
 focus
  have y2 := hW.p2.cell
  have f0 := hW.has.qia
  have z1 := hW.has.shot hi 1 (by omega)
  simp only [Gm.Shot.cells, List.getElem?_cons_zero, List.getElem?_cons_succ] at z1
  clear hW
  go_simp
  first | done | rfl
 repeat (first
  | (apply Ry.qat rfl rfl; focus (intro _; go_simp; first | done | rfl))
  | (apply Ry.qb1 rfl rfl rfl rfl; focus (intro W hW; have y2 := Box.cell hW; clear hW; go_simp; first | done | rfl))
  | (apply Ry.qbR rfl rfl rfl rfl; focus (intro W hW; have z0 := hW.has.shot hi 0 (by omega); have z1 := hW.has.shot hi 1 (by omega); have z2 := hW.has.shot hi 2 (by omega); have z3 := hW.has.shot hi 3 (by omega); have z4 := hW.has.shot hi 4 (by omega); have z5 := hW.has.shot hi 5 (by omega); simp only [Gm.Shot.cells, List.getElem?_cons_zero, List.getElem?_cons_succ, Nat.add_zero] at z0 z1 z2 z3 z4 z5; clear hW; go_simp; first | done | rfl))
  | (apply Ry.qbs (C' := qbm b B c gs i w.heap.size (w.heap.size + 1) (w.heap.size + 1 + 1) w G ⟨o, X, y, vx, vy, left⟩ false) rfl; (focus (intro W hW; clear hW; go_simp; first | done | rfl | exact ⟨rfl, rfl⟩)); (focus (intro W hW; first | ((with_reducible refine (k1 W).out.mono ?_); exact fun e w' h => ⟨h.1, hW.call h.2⟩) | ((with_reducible refine (k2 W).out.mono ?_); exact fun e w' h => ⟨h.1, hW.call h.2⟩))); (focus (exact fun W hW => ⟨hW, hW.p2⟩))))
 refine Ry.qby rfl rfl (C' := qbm b B c gs i w.heap.size (w.heap.size + 1) (w.heap.size + 1 + 1) w G ⟨o, X, Y, vx, vy, left⟩ false) (D' := qbm b B c gs i w.heap.size (w.heap.size + 1) (w.heap.size + 1 + 1) w G ⟨o, X, Y, vx, vy, left⟩ false) (fun W hW => ⟨_, ?_, hW.put hi (j := 2) (by omega) rfl⟩) (fun W hW => ⟨hW, hW.p2⟩) ?_
 focus
  have y2 := hW.p2.cell
  have f0 := hW.has.qia
  have z2 := hW.has.shot hi 2 (by omega)
  simp only [Gm.Shot.cells, List.getElem?_cons_zero, List.getElem?_cons_succ] at z2
  clear hW
  go_simp
  first | done | rfl
 refine Ry.qbJ fun W1 HW => ?_
 have HC1 := qh HW
 have y2 := HW.p2.cell
 have f0 := HW.has.qia
 have z5 := HW.has.shot hi 5 (by omega)
 simp only [Gm.Shot.cells, List.getElem?_cons_zero, List.getElem?_cons_succ] at z5
 clear HW HC
 go_upto_region 3 with fail
 obtain ⟨W2, hW2⟩ : ∃ W2, W2 = W1.setCell ⟨gs, i * 6 + 5, none⟩ (.int .i64 (left - 1)) := ⟨_, rfl⟩
 have HF : qbm b B c gs i w.heap.size (w.heap.size + 1) (w.heap.size + 1 + 1) w G ⟨o, X, Y, vx, vy, left - 1⟩ false W2 := by rw [hW2]; exact HC1.out.put hi (j := 5) (by omega) rfl
 rw [<- hW2]
 have HC2 := qh HF
 clear hW2 HC1 z5 f0 y2
 have y2 := HF.p2.cell
 have y1 := HF.p1.cell
 have y3 := HF.p3.cell
 have g3 := HF.p3.free
 have z5 := HF.has.shot hi 5 (by omega)
 simp only [Gm.Shot.cells, List.getElem?_cons_zero, List.getElem?_cons_succ] at z5
 clear HF
 by_cases hl0 : left - 1 = 0
 · have hb : (left - 1 == 0) = true := by simpa using hl0
   have HF3 := qh (HC2.out.flag (by omega) false)
   have hc3 : (W2.setCell ⟨w.heap.size + 1 + 1, 0, none⟩ (.bool false)).cell? ⟨w.heap.size + 1 + 1, 0, none⟩ = some (.bool false) := HF3.out.p3.cell 0
   have HL0 := qh hl0
   clear hl0
   go_wp2
   refine ⟨.bool false, ?_, .inl ⟨HL0.out, rfl, HF3.out.has, HF3.out.keep⟩⟩
   simp [results, Tryz.f107, go_sem, hc3]
 · have hb : (left - 1 == 0) = false := by simp; omega
   have HL0 := qh hl0
   clear hl0
   go_upto_block 0 with (go_at_call 101; ((with_reducible refine (qhO _ _).mono ?_); rintro e w3 ⟨rfl, rfl⟩))
   have F0 : qbm b B c gs i w.heap.size (w.heap.size + 1) (w.heap.size + 1 + 1) w G ⟨o, X, Y, vx, vy, left - 1⟩ false (W2.alloc (.cells #[.pointer (some ⟨B, 0, none⟩)] 149)) := HC2.out.alloc _
   have PB : Box (W2.alloc (.cells #[.pointer (some ⟨B, 0, none⟩)] 149)) W2.heap.size 149 #[.pointer (some ⟨B, 0, none⟩)] := Box.made _ _ _
   generalize W2.alloc (.cells #[.pointer (some ⟨B, 0, none⟩)] 149) = W3 at F0 PB ⊢
   generalize W2.heap.size = Bg at PB ⊢
   have hfl0 : qek B Bg (fun j => (G.ship j).on) W3 := ⟨PB.cell 0, fun k hk => F0.has.has.flags k hk⟩
   have FF0 := qh F0
   have PB0 := qh PB
   clear F0 PB y1 y2 y3 g3 z5 HC2
   refine (wpIn_wide (n := 10)).1 ?_
   refine wpIn_block ?_
   refine wpIn_rangeFunc_ownF (n := 10) (w := W3) rfl (by omega) (gf := 132) (lb := #[.pointer (some ⟨Bg, 0, none⟩)]) rfl trivial (enters_of Tryz.func132 (by kernel_rfl) rfl)
    (qeT (fun j => (G.ship j).on) B Bg _ W3 hfl0) qn6 (qn7 (n := W3.heap.size)) (Below.refl _ _) (fun _ => rfl)
    (fun pre V => qbm b B c gs i w.heap.size (w.heap.size + 1) (w.heap.size + 1 + 1) w G ⟨o, X, Y, vx, vy, left - 1⟩ false V /\ ∀ y ∈ pre, Gm.qcr G.ship ⟨o, X, Y, vx, vy, left - 1⟩ y.1 = false)
    (fun c' pre V => c' = .ret /\ ∃ (pre' : List (Slot fun j => (G.ship j).on)) (x : Slot fun j => (G.ship j).on), pre = pre' ++ [x] /\ (∀ y ∈ pre', Gm.qcr G.ship ⟨o, X, Y, vx, vy, left - 1⟩ y.1 = false) /\ Gm.qcr G.ship ⟨o, X, Y, vx, vy, left - 1⟩ x.1 = true /\
     qaP b B (some ⟨gs, 0, none⟩) c { flyG G i ⟨o, X, Y, vx, vy, left - 1⟩ with dice := dd, ship := Gm.more (Gm.upd G.ship x.1 ⟨true, dx, dy, 0, 0, 0, (G.ship x.1).score⟩) o } V /\ Box V (w.heap.size + 1 + 1) 4 #[.bool false] /\ Keep b B w V)
    (fun pre V V' row h hgr hr => ⟨h.1.turned hgr (fun r e => ⟨Nat.le_trans FF0.out.keep.size (hr r e).1, (hr r e).2⟩), h.2⟩)
    (fun c' pre V V' row h hgr hr => by
     obtain ⟨h0, pre', x, h1, h2, h3, h4, h5, h6⟩ := h
     exact ⟨h0, pre', x, h1, h2, h3, h4.turned hgr fun r e => (hr r e).2, h5.turned hgr fun r e => (hr r e).2, h6.turned hgr fun r e => Nat.le_trans FF0.out.keep.size (hr r e).1⟩)
    ⟨FF0.out, by simp⟩
    (fun z => { tmps := #[.pointer (some ⟨B, 0, none⟩), .pointer (some ⟨gs, i * 6, none⟩), .pointer (some ⟨w.heap.size, 0, none⟩), .pointer (some ⟨w.heap.size + 1, 0, none⟩), .pointer (some ⟨w.heap.size + 1 + 1, 0, none⟩), .int .i64 z.1, .pointer (some ⟨B, 2 + z.1 * 7, none⟩), .pointer (some ⟨gs, i * 6, none⟩), .pointer (some ⟨gs, i * 6, none⟩), .pointer (some ⟨gs, i * 6, none⟩), .pointer (some ⟨gs, i * 6, none⟩), .pointer (some ⟨gs, i * 6 + 1, none⟩), .int .i32 x, .pointer (some ⟨gs, i * 6, none⟩), .pointer (some ⟨gs, i * 6, none⟩), .pointer (some ⟨gs, i * 6 + 3, none⟩), .int .i32 vx, .int .i32 X, .pointer (some ⟨gs, i * 6, none⟩), .pointer (some ⟨gs, i * 6, none⟩), .pointer (some ⟨gs, i * 6 + 2, none⟩), .int .i32 y, .pointer (some ⟨gs, i * 6, none⟩), .pointer (some ⟨gs, i * 6, none⟩), .pointer (some ⟨gs, i * 6 + 4, none⟩), .int .i32 vy, .int .i32 Y, .pointer (some ⟨gs, i * 6, none⟩), .pointer (some ⟨gs, i * 6 + 1, none⟩), .pointer (some ⟨gs, i * 6, none⟩), .pointer (some ⟨gs, i * 6 + 2, none⟩), .pointer (some ⟨gs, i * 6, none⟩), .pointer (some ⟨gs, i * 6, none⟩), .pointer (some ⟨gs, i * 6 + 5, none⟩), .int .i64 left, .int .i64 (left - 1), .pointer (some ⟨gs, i * 6, none⟩), .pointer (some ⟨gs, i * 6 + 5, none⟩), .pointer (some ⟨gs, i * 6, none⟩), .pointer (some ⟨gs, i * 6, none⟩), .pointer (some ⟨gs, i * 6 + 5, none⟩), .int .i64 (left - 1), .bool false, .pointer (some ⟨B, 0, none⟩), .func (.func 132) #[] #[.pointer (some ⟨Bg, 0, none⟩)], .int .i64 z.1, .pointer (some ⟨B, 2 + z.1 * 7, none⟩), undef, undef, undef, undef, undef, undef, undef, undef, undef, undef, undef, undef, undef, undef, undef, undef, undef, undef, undef, undef, undef, undef, undef, undef, undef, undef, undef, undef, undef, undef, undef, undef], defers := [] }) ?assign ?body ?done ?stop
   case assign =>
    intro l z V K hK
    gi_wp2
    exact hK
   case body =>
    rintro l pre ⟨k, hk, hon⟩ V ⟨hF, hpre⟩ hlen
    dsimp only
    refine wpIn_block ?_
    refine wpIn_seq_k ?_
    intro K hK
    have hk8 : (k : Int) < 8 := by omega
    have hoks := HSH.out k hk
    have y1 : ∀ q : Ext V.heap.size V, q.w.cell? ⟨w.heap.size, 0, none⟩ = some (.pointer (some ⟨B, 0, none⟩)) := fun q => q.cell hF.p1.lt (hF.p1.cell 0)
    have y2 : ∀ q : Ext V.heap.size V, q.w.cell? ⟨w.heap.size + 1, 0, none⟩ = some (.pointer (some ⟨gs, i * 6, none⟩)) := fun q => q.cell hF.p2.lt (hF.p2.cell 0)
    have gsl : gs < V.heap.size := by obtain ⟨cs, hr, _⟩ := hF.has.row; exact hr.lt
    have z0 := hF.has.shot hi 0 (by omega)
    have z1 := hF.has.shot hi 1 (by omega)
    have z2 := hF.has.shot hi 2 (by omega)
    simp only [Gm.Shot.cells, List.getElem?_cons_zero, List.getElem?_cons_succ, Nat.add_zero] at z0 z1 z2
    have z0 : ∀ q : Ext V.heap.size V, q.w.cell? ⟨gs, i * 6, none⟩ = some (.int .i64 o) := fun q => q.cell gsl z0
    have z1 : ∀ q : Ext V.heap.size V, q.w.cell? ⟨gs, i * 6 + 1, none⟩ = some (.int .i32 X) := fun q => q.cell gsl z1
    have z2 : ∀ q : Ext V.heap.size V, q.w.cell? ⟨gs, i * 6 + 2, none⟩ = some (.int .i32 Y) := fun q => q.cell gsl z2
    have sx := (hF.has.game.cell (2 + k * 7 + 1)).trans (Gm.qae _ _ k 1 hk (by omega))
    have sy := (hF.has.game.cell (2 + k * 7 + 2)).trans (Gm.qae _ _ k 2 hk (by omega))
    simp only [Gm.Ship.cells, List.getElem?_cons_zero, List.getElem?_cons_succ] at sx sy
    have sx : ∀ q : Ext V.heap.size V, q.w.cell? ⟨B, 2 + k * 7 + 1, none⟩ = some (.int .i32 (G.ship k).x) := fun q => q.cell hF.has.game.lt sx
    have sy : ∀ q : Ext V.heap.size V, q.w.cell? ⟨B, 2 + k * 7 + 2, none⟩ = some (.int .i32 (G.ship k).y) := fun q => q.cell hF.has.game.lt sy
    have hh1 : Gm.qcr G.ship ⟨o, X, Y, vx, vy, left - 1⟩ k = (decide ((k : Int) ≠ o) && Gf.hits X Y (G.ship k).x (G.ship k).y) := by
     have hon' : (G.ship k).on = true := hon
     unfold Gm.qcr; rw [hon']; rfl
    obtain ⟨_, ⟨hx1, hx2⟩, ⟨hy1, hy2⟩, _⟩ := hoks
    have chits := fun Z => qh (qkX X Y (G.ship k).x (G.ship k).y (by omega) (by omega) (by omega) (by omega) Z)
    generalize (G.ship k).x = SX at sx hh1 hx1 hx2 chits
    generalize (G.ship k).y = SY at sy hh1 hy1 hy2 chits
    have HF := qh hF
    have HP := qh hpre
    have HH1 := qh hh1
    clear hF hpre hh1
    by_cases hko : k = o
    · subst hko
      refine Rt.qdk V.heap.size V (by kernel_rfl) (by kernel_rfl) (by kernel_rfl) (by rintro ⟨_, _, h⟩; exact h) (Below.refl _ _) ?_
      repeat (go_big_quiet_step ((go_at_call 136; with_reducible exact Calls.qbz (Nat.le_refl _) (chits _).out)))
      refine wpQuiet_nil ?_
      intro _ hw'
      obtain ⟨q, hw''⟩ := hw'
      subst hw''
      refine hK _ _ ?_
      have hnew : ∀ y ∈ pre ++ [(⟨k, hk, hon⟩ : Slot fun j => (G.ship j).on)], Gm.qcr G.ship ⟨k, X, Y, vx, vy, left - 1⟩ y.1 = false := fun y hy => by
       rcases List.mem_append.1 hy with h | h
       · exact HP.out y h
       · simp only [List.mem_singleton] at h
         subst h
         show Gm.qcr G.ship ⟨k, X, Y, vx, vy, left - 1⟩ k = false
         rw [HH1.out]; simp
      have HN := qh hnew
      clear hnew
      gi_wp2
      refine ⟨qbi q.h, fun hf => hf.below q.h, HF.out.call q.h, ?_⟩
      first
       | exact HN.out
       | exact fun a hb hm => HN.out ⟨a, hb⟩ hm
    · have hne : ((k : Int) == (o : Int)) = false := by simp; omega
      have hne2 : ((k : Int) != (o : Int)) = true := by simp; omega
      have hne3 : ¬ (k : Int) = (o : Int) := by omega
      have hne4 : (k == o) = false := by simp; omega
      have hne5 : (k != o) = true := by simp; omega
      have hdo : decide ((k : Int) ≠ o) = true := by simp; omega
      rw [hdo, Bool.true_and] at HH1
      cases hhit : Gf.hits X Y SX SY
      · rw [hhit] at chits HH1
        refine Rt.qdk V.heap.size V (by kernel_rfl) (by kernel_rfl) (by kernel_rfl) (by rintro ⟨_, _, h⟩; exact h) (Below.refl _ _) ?_
        repeat (go_big_quiet_step ((go_at_call 136; with_reducible exact Calls.qbz (Nat.le_refl _) (chits _).out)))
        refine wpQuiet_nil ?_
        intro _ hw'
        obtain ⟨q, hw''⟩ := hw'
        subst hw''
        refine hK _ _ ?_
        have hnew : ∀ y ∈ pre ++ [(⟨k, hk, hon⟩ : Slot fun j => (G.ship j).on)], Gm.qcr G.ship ⟨o, X, Y, vx, vy, left - 1⟩ y.1 = false := fun y hy => by
         rcases List.mem_append.1 hy with h | h
         · exact HP.out y h
         · simp only [List.mem_singleton] at h
           subst h
           show Gm.qcr G.ship ⟨o, X, Y, vx, vy, left - 1⟩ k = false
           exact HH1.out
        have HN := qh hnew
        clear hnew
        gi_wp2
        refine ⟨qbi q.h, fun hf => hf.below q.h, HF.out.call q.h, ?_⟩
        first
         | exact HN.out
         | exact fun a hb hm => HN.out ⟨a, hb⟩ hm
      · rw [hhit] at chits HH1
        refine Rt.qdk V.heap.size V (by kernel_rfl) (by kernel_rfl) (by kernel_rfl) (by rintro ⟨_, _, h⟩; exact h) (Below.refl _ _) ?_
        repeat (go_big_quiet_step ((go_at_call 136; with_reducible exact Calls.qbz (Nat.le_refl _) (chits _).out)))
        refine wpQuiet_nil ?_
        intro _ hw'
        obtain ⟨q, hw''⟩ := hw'
        subst hw''
        refine hK _ _ ?_
        refine wpIn_cond_true rfl ?_
        refine wpIn_seq_k ?_
        intro K2 hK2
        have hfq := HF.out.call q.h
        have hs8 : ∀ i, i < 8 -> 0 <= (G.ship i).score /\ (G.ship i).score <= 1073741824 := fun i hi => ⟨(HSH.out i hi).2.2.2.2.2.2.2.1, (HSH.out i hi).2.2.2.2.2.2.2.2⟩
        have chh := fun Z (hZ : qaP b B (some ⟨gs, 0, none⟩) c (flyG G i ⟨o, X, Y, vx, vy, left - 1⟩) Z) => qh (qpb (flyG G i ⟨o, X, Y, vx, vy, left - 1⟩) b B (some ⟨gs, 0, none⟩) c k o dx dy dd Z hbB hk ho hZ hd hs8 hdx hdy hdd)
        have hoi : gs ≠ B := hfq.has.apart
        refine Rt.qml (by kernel_rfl) (by kernel_rfl) [] (by kernel_rfl) (by rintro ⟨_, _, h⟩; exact h)
         (fun Z => qbm b B c gs i w.heap.size (w.heap.size + 1) (w.heap.size + 1 + 1) w G ⟨o, X, Y, vx, vy, left - 1⟩ false Z /\ KeepsOthers V Z)
         (fun Z => Box Z w.heap.size 149 #[.pointer (some ⟨B, 0, none⟩)] /\ Box Z (w.heap.size + 1) 155 #[.pointer (some ⟨gs, i * 6, none⟩)] /\ Z.cell? ⟨gs, i * 6, none⟩ = some (.int .i64 o))
         (fun _ => True) ⟨hfq.drew, (qbi q.h).trans (KeepsOthers.drew _)⟩ (fun Z hZ => ⟨⟨hZ.1.p1, hZ.1.p2, hZ.1.has.shot hi 0 (by omega)⟩, trivial⟩) ?_
        repeat (first
         | (apply Ry.qat rfl rfl; focus (intro _; go_simp; first | done | rfl))
         | (apply Ry.qbR rfl rfl rfl rfl; focus (intro Z hZ; obtain ⟨hZ1, hZ2, hZ3⟩ := hZ; have u1 := Box.cell hZ1; have u2 := Box.cell hZ2; clear hZ1 hZ2; go_simp; first | done | rfl)))
        refine Ry.qbs (C' := fun Z => (qaP b B (some ⟨gs, 0, none⟩) c { flyG G i ⟨o, X, Y, vx, vy, left - 1⟩ with dice := dd, ship := Gm.more (Gm.upd G.ship k ⟨true, dx, dy, 0, 0, 0, (G.ship k).score⟩) o } Z /\ Box Z w.heap.size 149 #[.pointer (some ⟨B, 0, none⟩)] /\ Box Z (w.heap.size + 1) 155 #[.pointer (some ⟨gs, i * 6, none⟩)] /\ Box Z (w.heap.size + 1 + 1) 4 #[.bool false] /\ Keep b B w Z) /\ KeepsOthers V Z) (v := .tuple #[]) (f := 137) (args := #[.pointer (some ⟨B, 0, none⟩), .pointer (some ⟨B, 2 + k * 7, none⟩), .int .i64 o]) rfl ?_ ?_ ?_ ?_
        · intro Z hZ; clear hZ; go_simp; first | done | rfl | exact ⟨rfl, rfl⟩
        · intro Z hZ
          refine (chh Z hZ.1.has).out.mono ?_
          rintro e Z2 ⟨rfl, hH2, hK2⟩
          exact ⟨rfl, ⟨hH2, hZ.1.p1.keep hK2 (Box.apart hZ.1.p1 hZ.1.has.game (by decide)) (by decide), hZ.1.p2.keep hK2 (Box.apart hZ.1.p2 hZ.1.has.game (by decide)) (by decide), hZ.1.p3.keep hK2 (Box.apart hZ.1.p3 hZ.1.has.game (by decide)) (by decide), hZ.1.keep.trans hK2⟩, hZ.2.trans (hK2.others hZ.1.has.game)⟩
        · intro Z hZ
          exact ⟨⟨hZ.1.2.1, hZ.1.2.2.1, qaP.shot (G := { G with dice := dd, ship := Gm.more (Gm.upd G.ship k ⟨true, dx, dy, 0, 0, 0, (G.ship k).score⟩) o }) hZ.1.1 hi 0 (by omega)⟩, trivial⟩
        refine Ry.qbJ fun Z hZ => ?_
        obtain ⟨⟨hZ1, hZ2, hZ3, hZ4, hZ5⟩, hZ6⟩ := hZ
        refine hK2 _ _ ?_
        have Q1 := qh (hZ1.off (p := ⟨w.heap.size + 1 + 1, 0, none⟩) (Box.apart hZ4 hZ1.game (by decide)) hZ4 (by decide) (.bool false))
        have Q4 := qh (hZ4.put 0 (.bool false))
        have Q5 := qh (hZ5.fresh (p := ⟨w.heap.size + 1 + 1, 0, none⟩) (by show w.heap.size <= w.heap.size + 1 + 1; omega) (.bool false))
        have Q6 := qh (hZ6.trans (KeepsOthers.setCell Z ⟨w.heap.size + 1 + 1, 0, none⟩ (.bool false)))
        have u4 := hZ4.cell
        have v4 := hZ4.free
        clear hZ1 hZ2 hZ3 hZ4 hZ5 hZ6 hfq
        have hhk := qh HH1.out
        gi_wp2
        first
         | exact ⟨Q6.out, rfl, pre, ⟨k, hk, hon⟩, rfl, HP.out, hhk.out, Q1.out, Q4.out, Q5.out⟩
         | exact ⟨Q6.out, rfl, pre, k, ⟨⟨hk, hon⟩, rfl⟩, fun a hb hm => HP.out ⟨a, hb⟩ hm, hhk.out, Q1.out, Q4.out, Q5.out⟩
   case done =>
    rintro D xs V hD rfl ⟨hF, hn⟩ hK
    have hnone := qh (qiA (f := G.ship) (s := ⟨o, X, Y, vx, vy, left - 1⟩) 8 0 rfl hn)
    have hF3 := hF.flag (by omega) true
    have hK3 := qes (KeepsOthers.setCell V ⟨w.heap.size + 1 + 1, 0, none⟩ (.bool true)) hK
    have hDw : w.heap.size <= D := Nat.le_trans FF0.out.keep.size hD
    have HT := qh (hF3.turned (grownBy_putObj' _ D (.deferred none)) (fun r e => by cases e; exact ⟨hDw, _, hK3, rfl⟩))
    have HK3 := qh hK3
    have hc5 : ((V.setCell ⟨w.heap.size + 1 + 1, 0, none⟩ (.bool true)).putObj D (.deferred none)).cell? ⟨w.heap.size + 1 + 1, 0, none⟩ = some (.bool true) := HT.out.p3.cell 0
    have u4 := hF.p3.cell
    have v4 := hF.p3.free
    clear hn hF hF3 hK3 hK
    go_wp2
    refine ⟨by simp, .inl ⟨_, _, rfl, run_takeDeferred HK3.out, ?_⟩⟩
    refine ⟨.bool true, ?_, .inr (.inl ⟨HL0.out, hnone.out, rfl, HT.out.has, HT.out.keep⟩)⟩
    simp [results, Tryz.f107, go_sem, hc5]
   case stop =>
    rintro D c' pre V hD ⟨rest, hpre⟩ ⟨rfl, pre', x, rfl, h2, h3, h4, h5, h6⟩ hK
    have hfirst := qh (qgP (f := G.ship) (s := ⟨o, X, Y, vx, vy, left - 1⟩) 8 0 pre' x rest rfl (by rw [hpre]; simp) h2 h3)
    have hDw : w.heap.size <= D := Nat.le_trans FF0.out.keep.size hD
    have HT4 := qh (h4.turned (grownBy_putObj' _ D (.deferred none)) (fun r e => by cases e; exact ⟨_, hK, rfl⟩))
    have HT5 := qh (h5.turned (grownBy_putObj' _ D (.deferred none)) (fun r e => by cases e; exact ⟨_, hK, rfl⟩))
    have HT6 := qh (h6.turned (grownBy_putObj' V D (.deferred none)) (fun r e => by cases e; exact hDw))
    have hc5 : (V.putObj D (.deferred none)).cell? ⟨w.heap.size + 1 + 1, 0, none⟩ = some (.bool false) := HT5.out.cell 0
    have HK3 := qh hK
    clear h2 h3 h4 h5 h6 hK hpre
    refine wpIn_ret ?_
    refine ⟨by simp, .inl ⟨_, _, rfl, run_takeDeferred HK3.out, ?_⟩⟩
    refine ⟨.bool false, ?_, .inr (.inr ⟨x.1, HL0.out, hfirst.out, rfl, HT4.out, HT6.out⟩)⟩
    simp [results, Tryz.f107, go_sem, hc5]
end Go.Proofs.YtbdlpbnfcnhajaaGreat
namespace Go.Proofs.YtbdlpbnfcnhajaaGreat
open Go.RowKit Go.Shelf
theorem qqa (G : Gm.G) (b B c gs i : Nat) (w : World) (hbB : b <= B) (hi : i < G.qaa.length) (h : qaP b B (some ⟨gs, 0, none⟩) c G w) (ok : Gm.qa5 G.qaa[i]) (hsh : ∀ j, j < 8 -> Gm.qaT (G.ship j)) (hd : 0 <= G.dice /\ G.dice <= 18446744073709551615) :
 Calls Tryz.prog 107 #[.pointer (some ⟨B, 0, none⟩), .pointer (some ⟨gs, i * 6, none⟩)] w fun e w' => e = .returned (.bool (gone G i G.qaa[i]).1) /\ qaP b B (some ⟨gs, 0, none⟩) c (gone G i G.qaa[i]).2 w' /\ Keep b B w w' := by
 generalize hs : G.qaa[i] = s at ok
 obtain ⟨owner, x, y, vx, vy, left⟩ := s
 obtain ⟨o, rfl⟩ : ∃ o : Nat, owner = o := ⟨owner.toNat, by have := ok.1; dsimp only at this; omega⟩
 have ho : o < 8 := by have := ok.2.1; dsimp only at this; omega
 have hf : Gm.fly ⟨o, x, y, vx, vy, left⟩ = ⟨o, Gf.move x vx, Gf.move y vy, vx, vy, left - 1⟩ := rfl
 refine (qn3 G b B c gs i o x y vx vy left _ _ w hbB hi h hs ho ok hsh hd rfl rfl _ _ _ rfl rfl rfl).mono ?_
 rintro e w' (⟨h1, rfl, h2, h3⟩ | ⟨h0, h1, rfl, h2, h3⟩ | ⟨kh, h0, h1, rfl, h2, h3⟩)
 · unfold gone
   rw [hf, if_pos h1]
   exact ⟨rfl, h2, h3⟩
 · unfold gone
   rw [hf, if_neg h0, if_pos (by rw [h1]; decide)]
   exact ⟨rfl, h2, h3⟩
 · unfold gone
   rw [hf, if_neg h0, if_neg (by rw [h1]; omega), h1]
   exact ⟨rfl, h2, h3⟩
theorem qoD (G : Gm.G) (b B c gs i : Nat) (w : World) (hbB : b <= B) (hi : i < G.qaa.length) (h : qaP b B (some ⟨gs, 0, none⟩) c G w) (ok : Gm.qa5 G.qaa[i]) (hsh : ∀ j, j < 8 -> Gm.qaT (G.ship j)) (hd : 0 <= G.dice /\ G.dice <= 18446744073709551615) :
 Calls Tryz.prog 106 #[.pointer (some ⟨gs, i * 6, none⟩), .pointer (some ⟨B, 0, none⟩)] w fun e w' => e = .returned (.bool (gone G i G.qaa[i]).1) /\ qaP b B (some ⟨gs, 0, none⟩) c (gone G i G.qaa[i]).2 w' /\ Keep b B w w' := by
 have c1 := qh (qqa G b B c gs i w hbB hi h ok hsh hd)
 generalize gone G i G.qaa[i] = r at c1 ⊢
 clear h ok
 go_enter Tryz.func106, Tryz.ntmps106
 go_wp2_with (go_at_call 107; ((with_reducible refine (c1.out).mono ?_); rintro e w1 ⟨rfl, h1, h2⟩; have H1 := qh h1; have H2 := qh h2; clear h1 h2))
 go_ret
 exact ⟨rfl, H1.out, H2.out⟩
def qdW (P : Program) (e : TypeId) (size : Nat) (ops : Array Oper) (Q : Exit -> Act -> World -> Prop) (rest : List Oper) (dst : Option Tmp) (v q : Value) (a : Act) (w : World) : Prop :=
 ∃ (g n c : Nat) (cur : Array Value) (ad : Addr) (k : Nat) (news : List Value), v = .slice (some ⟨g, 0, none⟩) n c /\ q = .slice (some ad) 1 k /\ Box w g e cur /\ Lies w w.heap.size size (some ad) 1 news /\ (∀ u ∈ news, u.oneCell' = true) /\ n + 1 <= c /\ n * size + news.length <= cur.size /\
  wpList P ops Q rest (a.put dst (.slice (some ⟨g, 0, none⟩) (n + 1) c)) (w.setRow g (cur.toList.take (n * size) ++ news ++ cur.toList.drop (n * size + news.length)).toArray)
theorem qdW.mk {P : Program} {e : TypeId} {size : Nat} {ops : Array Oper} {Q : Exit -> Act -> World -> Prop} {rest : List Oper} {dst : Option Tmp} {v q : Value} {a : Act} {w : World} {g n c : Nat} {cur : Array Value} {ad : Addr} {k : Nat} {news : List Value}
 (hv : v = .slice (some ⟨g, 0, none⟩) n c) (hq : q = .slice (some ad) 1 k) (hB : Box w g e cur) (hl : Lies w w.heap.size size (some ad) 1 news) (h1 : ∀ u ∈ news, u.oneCell' = true) (hr : n + 1 <= c) (hf : n * size + news.length <= cur.size)
 (h : wpList P ops Q rest (a.put dst (.slice (some ⟨g, 0, none⟩) (n + 1) c)) (w.setRow g (cur.toList.take (n * size) ++ news ++ cur.toList.drop (n * size + news.length)).toArray)) : qdW P e size ops Q rest dst v q a w :=
 ⟨g, n, c, cur, ad, k, news, hv, hq, hB, hl, h1, hr, hf, h⟩
theorem qi7 {P : Program} {ops : Array Oper} {rest : List Oper} {o : Oper} {a : Act} {w : World} {Q : Exit -> Act -> World -> Prop} {t e : TypeId} {i : TypeInfo} {size : Nat} {x y : Operand}
 (hgd : o.guard = none) (ho : o.op = .call { callee := .builtin .append, args := #[x, y], argTypes := #[t, t] }) (ht : P.underlying t = some (.slice e)) (hi : P.info? e = some i) (hs : i.size = size)
 (h : qdW P e size ops Q rest o.dst (a.eval x) (a.eval y) a w) : wpList P ops Q (o :: rest) a w := by
 obtain ⟨g, n, c, cur, ad, k, news, hv, hq, hB, hl, h1, hr, hf, h⟩ := h
 subst hs
 have hrun := run_append_room (P := P) (w := w) t o.type e i ht hi g n c cur hB.is ad 1 k news hl.len (fun j u hu => hl.cell ad rfl (by decide) j u hu) h1 hr hf
 refine wpList_plain hgd fun _ hK => ?_
 unfold Oper.wp
 rw [qgY ho hv hq hrun]
 exact hK _ _ h
theorem qhl (L : List Gm.Shot) (n : Nat) (hn : n < L.length) (s : Gm.Shot) : Gm.qab (L.set n s) = (Gm.qab L).take (n * 6) ++ s.cells ++ (Gm.qab L).drop (n * 6 + 6) := by
 induction L generalizing n with
 | nil => simp at hn
 | cons a L ih =>
  have hlen : a.cells.length = 6 := rfl
  unfold Gm.qab at *
  match n with
  | 0 => rw [List.set_cons_zero, List.flatMap_cons, List.flatMap_cons]; simp [hlen]
  | n + 1 =>
   rw [List.set_cons_succ, List.flatMap_cons, List.flatMap_cons, ih n (by simpa using hn), show (n + 1) * 6 = a.cells.length + n * 6 by rw [hlen]; omega, List.take_length_add_append, show a.cells.length + n * 6 + 6 = a.cells.length + (n * 6 + 6) by omega, List.drop_length_add_append]
   simp
theorem qaP.room {b B c gs n : Nat} {G : Gm.G} {W : World} (h : qaP b B (some ⟨gs, 0, none⟩) c G W) (hn : n < G.qaa.length) (s : Gm.Shot) :
 ∃ cur, Box W gs 72 cur /\ n + 1 <= c /\ n * 6 + 6 <= cur.size /\ qaP b B (some ⟨gs, 0, none⟩) c { G with qaa := G.qaa.set n s } (W.setRow gs (cur.toList.take (n * 6) ++ s.cells ++ cur.toList.drop (n * 6 + 6)).toArray) := by
 have hap := h.apart
 obtain ⟨hg, hl, ⟨h0, _⟩ | ⟨g', cap, cur, hv, hb, hgg, hnc, hcm, hcs, htake⟩⟩ := h
 · cases h0
 · injection hv with e1 e2 e3
   injection e1 with e1
   injection e1 with e1
   subst e1 e3
   have hfit : n * 6 + 6 <= cur.size := by omega
   refine ⟨cur, ⟨hgg⟩, by omega, hfit, ?_, ?_, ?_⟩
   · dsimp only
     rw [show (G.qaa.set n s).length = G.qaa.length by simp]
     exact hg.qa4 (fun e => hap e.symm) _
   · dsimp only
     rw [Gm.qic]
   · dsimp only
     rw [show (G.qaa.set n s).length = G.qaa.length by simp]
     refine .inr ⟨gs, c, _, rfl, hb, (Box.row ⟨hgg⟩ _).is, hnc, hcm, ?_, ?_⟩
     · have : s.cells.length = 6 := rfl
       simp [this]; omega
     · rw [qhl _ _ hn, <- htake]
       have hc6 : s.cells.length = 6 := rfl
       have hcl : cur.toList.length = c * 6 := by simpa using hcs
       have hm : n * 6 + 6 <= G.qaa.length * 6 := by omega
       have hm2 : G.qaa.length * 6 <= c * 6 := by omega
       generalize G.qaa.length * 6 = M at *
       generalize n * 6 = K at *
       generalize cur.toList = Z at *
       rw [List.take_append, List.take_append]
       simp only [List.length_append, List.length_take, hc6, hcl]
       rw [List.take_take, List.take_take]
       rw [show min M K = K by omega, show min K (c * 6) = K by omega, show min K M = K by omega, List.take_of_length_le (l := s.cells) (by omega), List.drop_take]
theorem qaP.self {b B c : Nat} {A : Option Addr} {G : Gm.G} {W : World} (h : qaP b B A c G W) : qaP b B A c { G with qaa := G.qaa } W := h
theorem qjH (g : Gm.G) (b B : Nat) (f : Value) (w : World) (hbB : b <= B) (h : Has b B g w) (h0 : g.qaa = []) :
 Calls Tryz.prog 105 #[.pointer (some ⟨B, 0, none⟩), f] w fun e w' => e = .returned (.tuple #[]) /\ Has b B g w' /\ Keep b B w w' := by
 obtain ⟨A, c, hB, hO⟩ := h
 rw [h0] at hB hO
 have hn : ([] : List Gm.Shot).length = 0 := rfl
 rw [hn] at hB hO
 have hc := hB.cell
 have hf := hB.free
 have e58 := Gm.qaZ g (.slice A 0 c)
 have fin : Has b B g (w.setCell ⟨B, 58, none⟩ (.slice A 0 c)) := ⟨A, c, by rw [h0]; exact qcd hB _, by rw [h0]; exact ownsRow_setCell_other (a := ⟨B, 58, none⟩) hO (hB.qaO hO (by decide)) _⟩
 have FIN := qh fin
 have HK := qh ((Keep.refl hbB w).put 58 (.slice A 0 c))
 have hA : A = none -> c = 0 := fun e => by
  subst e
  obtain ⟨_, ⟨h, _⟩ | ⟨_, _, _, h, _⟩⟩ := hO
  · injection h
  · cases h
 clear hB hO fin
 cases A with
 | none =>
  obtain rfl := hA rfl
  clear hA
  go_enter Tryz.func105, Tryz.ntmps105
  go_wp2
  go_loopg [4, 16] 0 (fun gg s4 i wr => gg = 0 /\ s4 = .slice none 0 0 /\ i = .int .i64 0 /\ wr = w)
  case atStart => exact ⟨rfl, rfl, rfl, rfl⟩
  case round =>
   obtain ⟨rfl, rfl, rfl, rfl⟩ := hrel
   go_wp2
   go_end0
   exact ⟨rfl, FIN.out, HK.out⟩
 | some ad =>
  clear hA
  go_enter Tryz.func105, Tryz.ntmps105
  go_wp2
  go_loopg [4, 16] 0 (fun gg s4 i wr => gg = 0 /\ s4 = .slice (some ad) 0 c /\ i = .int .i64 0 /\ wr = w)
  case atStart => exact ⟨rfl, rfl, rfl, rfl⟩
  case round =>
   obtain ⟨rfl, rfl, rfl, rfl⟩ := hrel
   go_wp2
   go_end0
   exact ⟨rfl, FIN.out, HK.out⟩
theorem qjz (s : Gm.Shot) : ∀ u ∈ s.cells, u.oneCell' = true := by
 intro u hu
 simp only [Gm.Shot.cells, List.mem_cons, List.not_mem_nil, or_false] at hu
 rcases hu with rfl | rfl | rfl | rfl | rfl | rfl <;> rfl
theorem qhL (w : World) (s : Gm.Shot) : Lies (w.alloc (.cells #[.int .i64 s.owner, .int .i32 s.x, .int .i32 s.y, .int .i32 s.vx, .int .i32 s.vy, .int .i64 s.left] 72)) (w.alloc (.cells #[.int .i64 s.owner, .int .i32 s.x, .int .i32 s.y, .int .i32 s.vx, .int .i32 s.vy, .int .i64 s.left] 72)).heap.size 6 (some ⟨w.heap.size, 0, none⟩) 1 s.cells := qdQ w _ s
theorem qee (L : List Gm.Shot) (n : Nat) : Gm.qab (L.take n) = (Gm.qab L).take (n * 6) := by
 induction L generalizing n with
 | nil => simp [Gm.qab]
 | cons a L ih =>
  have hlen : a.cells.length = 6 := rfl
  unfold Gm.qab at *
  match n with
  | 0 => simp
  | n + 1 => rw [List.take_succ_cons, List.flatMap_cons, List.flatMap_cons, ih n, show (n + 1) * 6 = a.cells.length + n * 6 by rw [hlen]; omega, List.take_length_add_append]
theorem qhJ {b gs m n c : Nat} {e : TypeId} {W : World} {L : List Gm.Shot} (h : W.ownsRow b e 6 (.slice (some ⟨gs, 0, none⟩) m c) m (Gm.qab L)) (hn : n <= m) : W.ownsRow b e 6 (.slice (some ⟨gs, 0, none⟩) n c) n (Gm.qab (L.take n)) := by
 obtain ⟨hl, ⟨h0, _⟩ | ⟨g', cap, cur, hv, hb, hgg, hnc, hcm, hcs, htake⟩⟩ := h
 · cases h0
 · injection hv with e1 e2 e3
   injection e1 with e1
   injection e1 with e1
   subst e1 e3
   have hle : n * 6 <= m * 6 := Nat.mul_le_mul_right 6 hn
   refine ⟨?_, .inr ⟨gs, c, cur, rfl, hb, hgg, by omega, hcm, hcs, ?_⟩⟩
   · rw [qee, List.length_take, hl]; omega
   · rw [qee, <- htake, List.take_take, Nat.min_eq_left hle]
structure qj4 (b B c gs j : Nat) (w0 : World) (g : Gm.G) (st : Gm.St) (L : List Gm.Shot) (s4 : Value) (W : World) : Prop where
 len : L.length = g.qaa.length
 few : st.left.length <= j
 kept : L.take st.left.length = st.left
 rest : ∀ i, j <= i -> L[i]? = g.qaa[i]?
 left : s4 = .slice (some ⟨gs, 0, none⟩) st.left.length c
 has : qaP b B (some ⟨gs, 0, none⟩) c { g with dice := st.dice, ship := st.ship, qaa := L } W
 keep : Keep b B w0 W
theorem qh4 {b B c gs j : Nat} {w0 : World} {g : Gm.G} {st st' : Gm.St} {L : List Gm.Shot} {s4 : Value} {W W' : World} (h : qj4 b B c gs j w0 g st L s4 W) (hl : st'.left = st.left) (F : Gm.Shot) (hh : qaP b B (some ⟨gs, 0, none⟩) c { g with dice := st'.dice, ship := st'.ship, qaa := L.set j F } W') (hk : Keep b B w0 W') : qj4 b B c gs (j + 1) w0 g st' (L.set j F) s4 W' := by
 have hf := h.few
 refine ⟨by simp [h.len], by rw [hl]; omega, ?_, fun i hi => ?_, by rw [hl]; exact h.left, hh, hk⟩
 · rw [hl, List.take_set_of_le hf]
   exact h.kept
 · rw [List.getElem?_set_ne (by omega)]
   exact h.rest i (by omega)
theorem qhA {b B c gs j : Nat} {w0 : World} {g : Gm.G} {st : Gm.St} {L : List Gm.Shot} {s4 : Value} {W W' : World} (h : qj4 b B c gs j w0 g st L s4 W) (hj : j < g.qaa.length) (F : Gm.Shot) (hh : qaP b B (some ⟨gs, 0, none⟩) c { g with dice := st.dice, ship := st.ship, qaa := (L.set j F).set st.left.length F } W') (hk : Keep b B w0 W') :
 qj4 b B c gs (j + 1) w0 g { st with left := st.left ++ [F] } ((L.set j F).set st.left.length F) (.slice (some ⟨gs, 0, none⟩) (st.left.length + 1) c) W' := by
 have hf := h.few
 have hlen := h.len
 refine ⟨by simp [h.len], by simp; omega, ?_, fun i hi => ?_, by simp, hh, hk⟩
 · dsimp only
   rw [show (st.left ++ [F]).length = st.left.length + 1 by simp, List.take_succ_eq_append_getElem (by simp; omega)]
   congr 1
   · rw [List.take_set_of_le (Nat.le_refl _), List.take_set_of_le hf]
     exact h.kept
   · simp
 · rw [List.getElem?_set_ne (by omega), List.getElem?_set_ne (by omega)]
   exact h.rest i (by omega)
theorem qnY (g : Gm.G) (b B : Nat) (w : World) (hbB : b <= B) (h : Has b B g w) (hne : g.qaa.length ≠ 0) (hoks : ∀ t ∈ g.qaa, Gm.qa5 t) (hsh : ∀ j, j < 8 -> Gm.qaT (g.ship j)) (hd : 0 <= g.dice /\ g.dice <= 18446744073709551615) (hlen : g.qaa.length <= 32) (fin : Gm.St) (hfin : fin = Gm.ph2 ⟨g.dice, g.ship, []⟩ g.qaa) :
 Calls Tryz.prog 105 #[.pointer (some ⟨B, 0, none⟩), .func (.func 106) #[] #[.pointer (some ⟨B, 0, none⟩)]] w fun e w' => e = .returned (.tuple #[]) /\ Has b B { g with dice := fin.dice, ship := fin.ship, qaa := fin.left } w' /\ Keep b B w w' := by
 obtain ⟨A, c, hB, hO⟩ := h
 have h : qaP b B A c g w := ⟨hB, hO⟩
 obtain ⟨gs, rfl, hbg, _⟩ := h.len hne
 obtain ⟨m, hm⟩ : ∃ m, m = g.qaa.length := ⟨_, rfl⟩
 have way0 : Gm.Way2 ⟨g.dice, g.ship, []⟩ := ⟨hsh, fun t ht => (by cases ht), hd⟩
 have start : qj4 b B c gs 0 w g ⟨g.dice, g.ship, []⟩ g.qaa (.slice (some ⟨gs, 0, none⟩) 0 c) w :=
  ⟨rfl, Nat.le_refl _, rfl, fun _ _ => rfl, rfl, h, Keep.refl hbB w⟩
 have START := qh start
 have hcc := hB.cell
 have e58 := Gm.qaZ g (.slice (some ⟨gs, 0, none⟩) g.qaa.length c)
 rw [<- hm] at hcc e58 hne hlen
 obtain ⟨i0, hi0, hz0, hz1, hz2⟩ := info_parts qdi
 have hI := qh hi0
 have hS := qh hz1
 have HM := qh hm
 have HFIN := qh hfin
 clear hB hO h start hi0 hz0 hz1 hz2 hm hfin
 go_enter Tryz.func105, Tryz.ntmps105
 go_wp2
 go_loopg [4, 16] m (fun gg s4 i wr => ∃ (j : Nat) (L : List Gm.Shot), j <= m /\ gg = m - j /\ i = .int .i64 j /\ qj4 b B c gs j w g (Gm.ph2 ⟨g.dice, g.ship, []⟩ (g.qaa.take j)) L s4 wr)
 case atStart => exact ⟨0, g.qaa, by omega, rfl, rfl, START.out⟩
 case round =>
  obtain ⟨j, L, hj, rfl, rfl, hR⟩ := hrel
  clear hcc e58
  have hLm : L.length = m := by rw [hR.len, HM.out]
  have r58 := Gm.qaZ { g with dice := (Gm.ph2 ⟨g.dice, g.ship, []⟩ (g.qaa.take j)).dice, ship := (Gm.ph2 ⟨g.dice, g.ship, []⟩ (g.qaa.take j)).ship, qaa := L } (.slice (some ⟨gs, 0, none⟩) L.length c)
  have rc := hR.has.game.cell
  have rf := hR.has.game.free
  dsimp only at rc
  rw [hLm] at rc r58
  by_cases hlt : j < m
  · have hjm : (j : Int) < m := by omega
    have hjl : j < g.qaa.length := by rw [<- HM.out]; exact hlt
    obtain ⟨way2, len2⟩ := Gm.qgD way0 hoks j (by rw [<- HM.out]; exact hj)
    have hsn := qh (Gm.qfY ⟨g.dice, g.ship, []⟩ g.qaa j hjl)
    have oks := hoks _ (List.getElem_mem hjl)
    have hLj : L[j]'(by rw [hLm]; exact hlt) = g.qaa[j] := by
     have := hR.rest j (Nat.le_refl _)
     rw [List.getElem?_eq_getElem (by rw [hLm]; exact hlt), List.getElem?_eq_getElem hjl] at this
     injection this
    generalize hst : Gm.ph2 ⟨g.dice, g.ship, []⟩ (g.qaa.take j) = st at *
    obtain ⟨s, hs⟩ : ∃ s, s = g.qaa[j] := ⟨_, rfl⟩
    rw [<- hs] at oks hLj
    have cst := qoD { g with dice := st.dice, ship := st.ship, qaa := L } b B c gs j wr hbB (by rw [hLm]; exact hlt) hR.has (by rw [hLj]; exact oks) way2.qbV way2.dice
    dsimp only at cst
    rw [hLj] at cst
    have HR := qh hR
    have HSS := qh hs
    have hs4 := hR.left
    have hfew := hR.few
    clear hR hs hLj
    subst hs4
    generalize hF : Gm.fly s = F
    by_cases h1 : F.left = 0
    · have hg1 : gone { g with dice := st.dice, ship := st.ship, qaa := L } j s = (false, flyG { g with dice := st.dice, ship := st.ship, qaa := L } j F) := by
       unfold gone; rw [hF, if_pos h1]
      rw [hg1] at cst
      have hq : Gm.qec st s = st := by unfold Gm.qec; rw [hF, if_pos h1]
      have HQ := qh hq
      have CST := qh cst
      clear cst hg1 hq hst
      go_wp2_with (go_at_call 106; ((with_reducible refine (CST.out).mono ?_); rintro e w1 ⟨rfl, h1', k1'⟩; have H1 := qh h1'; have K1 := qh k1'; clear h1' k1'))
      go_roundg (m - (j + 1))
      case measure => omega
      case rel =>
       refine ⟨j + 1, L.set j F, by omega, rfl, by go_num, ?_⟩
       rw [hsn.out, <- HSS.out, HQ.out]
       exact qh4 HR.out rfl F H1.out (HR.out.keep.trans K1.out)
    · by_cases h2 : Gm.hit st.ship F < 0
      · have hg1 : gone { g with dice := st.dice, ship := st.ship, qaa := L } j s = (true, flyG { g with dice := st.dice, ship := st.ship, qaa := L } j F) := by
         unfold gone; rw [hF, if_neg h1, if_pos h2]
        rw [hg1] at cst
        have hq : Gm.qec st s = { st with left := st.left ++ [F] } := by unfold Gm.qec; rw [hF, if_neg h1, if_pos h2]
        have HQ := qh hq
        have CST := qh cst
        clear cst hg1 hq hst hF h1 h2
        obtain ⟨fo, fx, fy, fvx, fvy, fl⟩ := F
        have n32 : st.left.length + 1 <= 33 := by omega
        go_wp2_with (first | (go_at_call 106; ((with_reducible refine (CST.out).mono ?_); rintro e w1 ⟨rfl, h1', k1'⟩; have a58 := Gm.qaZ (flyG { g with dice := st.dice, ship := st.ship, qaa := L } j ⟨fo, fx, fy, fvx, fvy, fl⟩) (.slice (some ⟨gs, 0, none⟩) (flyG { g with dice := st.dice, ship := st.ship, qaa := L } j ⟨fo, fx, fy, fvx, fvy, fl⟩).qaa.length c); have a0 := h1'.game.cell; have q0 := h1'.shot (by rw [hLm]; exact hlt) 0 (by omega); have q1 := h1'.shot (by rw [hLm]; exact hlt) 1 (by omega); have q2 := h1'.shot (by rw [hLm]; exact hlt) 2 (by omega); have q3 := h1'.shot (by rw [hLm]; exact hlt) 3 (by omega); have q4 := h1'.shot (by rw [hLm]; exact hlt) 4 (by omega); have q5 := h1'.shot (by rw [hLm]; exact hlt) 5 (by omega); have R1 := (h1'.alloc (.cells #[.int .i64 fo, .int .i32 fx, .int .i32 fy, .int .i32 fvx, .int .i32 fvy, .int .i64 fl] 72)).room (n := st.left.length) (by show st.left.length < (L.set j _).length; rw [List.length_set, hLm]; omega) ⟨fo, fx, fy, fvx, fvy, fl⟩; obtain ⟨cur, r1, r2, r3, r4⟩ := R1; have RB := qh r1; have R4 := qh r4; have KK := qh ((HR.out.keep.trans k1').alloc (.cells #[.int .i64 fo, .int .i32 fx, .int .i32 fy, .int .i32 fvx, .int .i32 fvy, .int .i64 fl] 72)); have RL := qh (qhL w1 ⟨fo, fx, fy, fvx, fvy, fl⟩); simp only [Gm.Shot.cells, List.getElem?_cons_zero, List.getElem?_cons_succ, Nat.add_zero, List.length_set, hLm] at q0 q1 q2 q3 q4 q5 a58 a0; clear h1' k1' r1 r4 rc rf r58)) | ((with_reducible refine qi7 (x := .tmp 27) (y := .tmp 35) (t := 31) (e := 72) (size := 6) rfl rfl Tryz.underlying31 hI.out hS.out ?_); refine qdW.mk rfl rfl RB.out RL.out (qjz ⟨fo, fx, fy, fvx, fvy, fl⟩) r2 r3 ?_))
        go_roundg (m - (j + 1))
        case measure => omega
        case rel =>
         refine ⟨j + 1, (L.set j ⟨fo, fx, fy, fvx, fvy, fl⟩).set st.left.length ⟨fo, fx, fy, fvx, fvy, fl⟩, by omega, rfl, by go_num, ?_⟩
         rw [hsn.out, <- HSS.out, HQ.out]
         exact qhA HR.out hjl ⟨fo, fx, fy, fvx, fvy, fl⟩ (by have h := R4.out; rw [List.append_assoc] at h; exact h) (KK.out.row RB.out hbg _)
      · have hg1 : gone { g with dice := st.dice, ship := st.ship, qaa := L } j s = (false, { flyG { g with dice := st.dice, ship := st.ship, qaa := L } j F with dice := Gm.qeM st.dice, ship := Gm.more (Gm.anew st.dice st.ship (Gm.hit st.ship F).toNat) s.owner.toNat }) := by
         unfold gone; rw [hF, if_neg h1, if_neg h2]
        rw [hg1] at cst
        have hq : Gm.qec st s = ⟨Gm.qeM st.dice, Gm.more (Gm.anew st.dice st.ship (Gm.hit st.ship F).toNat) s.owner.toNat, st.left⟩ := by unfold Gm.qec; rw [hF, if_neg h1, if_neg h2]
        generalize Gm.qeM st.dice = nd at cst hq
        generalize Gm.more (Gm.anew st.dice st.ship (Gm.hit st.ship F).toNat) s.owner.toNat = nf at cst hq
        have HQ := qh hq
        have CST := qh cst
        clear cst hg1 hq hst
        go_wp2_with (go_at_call 106; ((with_reducible refine (CST.out).mono ?_); rintro e w1 ⟨rfl, h1', k1'⟩; have H1 := qh h1'; have K1 := qh k1'; clear h1' k1'))
        go_roundg (m - (j + 1))
        case measure => omega
        case rel =>
         refine ⟨j + 1, L.set j F, by omega, rfl, by go_num, ?_⟩
         rw [hsn.out, <- HSS.out, HQ.out]
         exact qh4 (st' := ⟨nd, nf, st.left⟩) HR.out rfl F H1.out (HR.out.keep.trans K1.out)
  · have hjm : ¬ (j : Int) < m := by omega
    have hje : j = m := by omega
    subst hje
    rw [HM.out, List.take_length, <- HFIN.out] at hR rc r58
    obtain ⟨h1, h2, h3, h4, h5, h6, h7⟩ := hR
    subst h5
    have own2 := qhJ (n := fin.left.length) h6.own (by show fin.left.length <= L.length; rw [h1]; exact h2)
    dsimp only at own2
    rw [h3] at own2
    have res : Has b B { g with dice := fin.dice, ship := fin.ship, qaa := fin.left } (wr.setCell ⟨B, 58, none⟩ (.slice (some ⟨gs, 0, none⟩) fin.left.length c)) :=
     ⟨some ⟨gs, 0, none⟩, c, qcd (g := { g with dice := fin.dice, ship := fin.ship, qaa := fin.left }) h6.game _, ownsRow_setCell_other (a := ⟨B, 58, none⟩) own2 (by intro e; injection e with e; exact h6.apart e) _⟩
    have RES := qh res
    have K7 := qh (h7.put 58 (.slice (some ⟨gs, 0, none⟩) fin.left.length c))
    clear h1 h2 h3 h4 h6 h7 own2 res
    go_wp2
    go_end0
    exact ⟨rfl, RES.out, K7.out⟩
theorem qo6 (g : Gm.G) (b B : Nat) (w : World) (hbB : b <= B) (h : Has b B g w) (hoks : ∀ t ∈ g.qaa, Gm.qa5 t) (hsh : ∀ j, j < 8 -> Gm.qaT (g.ship j)) (hd : 0 <= g.dice /\ g.dice <= 18446744073709551615) (hlen : g.qaa.length <= 32) (fin : Gm.St) (hfin : fin = Gm.ph2 ⟨g.dice, g.ship, []⟩ g.qaa) :
 Calls Tryz.prog 105 #[.pointer (some ⟨B, 0, none⟩), .func (.func 106) #[] #[.pointer (some ⟨B, 0, none⟩)]] w fun e w' => e = .returned (.tuple #[]) /\ Has b B { g with dice := fin.dice, ship := fin.ship, qaa := fin.left } w' /\ Keep b B w w' := by
 by_cases h0 : g.qaa = []
 · have e : fin = ⟨g.dice, g.ship, []⟩ := by rw [hfin, h0]; rfl
   subst e
   rw [show ({ g with dice := g.dice, ship := g.ship, qaa := [] } : Gm.G) = g by rw [<- h0]]
   exact qjH g b B _ w hbB h h0
 · exact qnY g b B w hbB h (fun e => h0 (List.eq_nil_of_length_eq_zero e)) hoks hsh hd hlen fin hfin
attribute [local go_sem] Oper.semAt_some
def New6 (b : Nat) (A : Option Addr) (n : Nat) : Prop := n ≠ 0 -> ∀ ad, A = some ad -> b <= ad.block
theorem New6.mono {b b' n : Nat} {A : Option Addr} (h : New6 b A n) (hb : b' <= b) : New6 b' A n := fun h0 ad e => Nat.le_trans hb (h h0 ad e)
theorem New6.owned {w : World} {b size n c : Nat} {e : TypeId} {A : Option Addr} {xs : List Value} (h : w.ownsRow b e size (.slice A n c) n xs) : New6 b A n := fun h0 ad ea => by
 obtain ⟨_, ⟨_, e0⟩ | ⟨g, cap, cur, e1, hb, _⟩⟩ := h
 · exact absurd e0 h0
 · injection e1 with e1 _ _
   rw [ea] at e1
   injection e1 with e1
   rw [e1]
   exact hb
def OutN (g' : Gm.G) (code : Int) (w : World) (e : Ending) (w' : World) : Prop :=
 ∃ A c, e = .returned (.tuple #[.agg (Gm.cells g' (.slice A g'.qaa.length c)), .int .i64 code]) /\ Lies w' w'.heap.size 6 A g'.qaa.length (Gm.qab g'.qaa) /\ Below w.heap.size w w' /\ New6 w.heap.size A g'.qaa.length
theorem qoC (ps : Nat -> Gm.In) (g : Gm.G) (A : Option Addr) (n c : Nat) (w : World) (hg : Gm.ok g) (hf : g.frame < 1048576) (hd : 0 <= g.dice /\ g.dice <= 18446744073709551615) (hp : ∀ i, i < 8 -> Gm.tyIn (ps i)) (hn : n = g.qaa.length) (hr : Lies w w.heap.size 6 A n (Gm.qab g.qaa)) :
 Calls Tryz.prog 76 #[.agg (Gm.cells g (.slice A n c)), .agg (Gm.qaI ps).toArray] w (OutN (Gm.step ps g) 0 w) := by
 have b1 : Box (((w.alloc (.cells (Gm.cells g (.slice A n c)) 33)).alloc (.cells (Gm.qaI ps).toArray 49)).alloc (.cells (Gm.cells qbn (.slice none 0 0)) 33)) w.heap.size 33 (Gm.cells g (.slice A n c)) := ((Box.made _ _ _).alloc _).alloc _
 have b2 : Box (((w.alloc (.cells (Gm.cells g (.slice A n c)) 33)).alloc (.cells (Gm.qaI ps).toArray 49)).alloc (.cells (Gm.cells qbn (.slice none 0 0)) 33)) (w.heap.size + 1) 49 (Gm.qaI ps).toArray := (Box.qan _ _ _ (by simp)).alloc _
 have b3 : Box (((w.alloc (.cells (Gm.cells g (.slice A n c)) 33)).alloc (.cells (Gm.qaI ps).toArray 49)).alloc (.cells (Gm.cells qbn (.slice none 0 0)) 33)) (w.heap.size + 1 + 1) 33 (Gm.cells qbn (.slice none 0 0)) := Box.qan _ _ _ (by simp)
 have hb0 : Below w.heap.size w (((w.alloc (.cells (Gm.cells g (.slice A n c)) 33)).alloc (.cells (Gm.qaI ps).toArray 49)).alloc (.cells (Gm.cells qbn (.slice none 0 0)) 33)) := (qal w _ _).alloc (by simp <;> omega) _
 have co := qh (qir g A n c _ hn (by have := hg.2.2.1; omega) ((hr.below hb0).wider hb0.size))
 have cm := fun X (hX : Below w.heap.size w X) => qh (qgJ g A n c X hg hn ((hr.below hX).wider hX.size))
 have fr : (g.frame == 1048576) = false := by simpa using Int.ne_of_lt hf
 have e0 := Gm.qaS g (.slice A n c)
 have hN := qh hn
 have B1 := qh b1
 have B2 := qh b2
 have B3 := qh b3
 have HB := qh hb0
 clear hn b1 b2 b3 hb0 hr
 refine (callsIn_wide (n := 10)).1 (callsIn_of_wp_marks Tryz.func76 rfl trivial (wpIn_wide.2 ?_) rfl)
 simp only [Tryz.ntmps76, List.size_toArray, List.length_cons, List.length_nil, Nat.reduceAdd, Nat.reduceSub, Array.replicate_succ, Array.replicate_zero, List.push_toArray, List.append_toArray, List.nil_append, List.cons_append]
 go_upto_block 0 with (first | (refine qaF rfl rfl ?_) | ((with_reducible refine qaG rfl rfl ?_); apply qaL.mk rfl; (with_reducible exact B1.out)) | ((with_reducible refine qaG rfl rfl ?_); apply qaL.mk rfl; (with_reducible exact D1.out)) | (go_at_call 99; ((with_reducible refine (co.out).mono ?_); rintro e w1 ⟨A1, c1, rfl, ho1, hb1⟩; have HB1 := qh ((HB.out.trans (hb1.mono HB.out.size)).alloc (by have := hb1.size; simp at this; omega) (.cells (Gm.cells g (.slice A1 n c1)) 33)); have H1 := qh (qf1 (w := w) hN.out (qbQ ho1 (by simp; omega))); have D1 := qh ((B1.out.below hb1 (by simp <;> omega)).alloc (.cells (Gm.cells g (.slice A1 n c1)) 33)); have D2 := qh ((B2.out.below hb1 (by simp <;> omega)).alloc (.cells (Gm.cells g (.slice A1 n c1)) 33)); have D3 := qh ((B3.out.below hb1 (by simp <;> omega)).alloc (.cells (Gm.cells g (.slice A1 n c1)) 33)); have s1 : w.heap.size + 1 + 1 < w1.heap.size := (by have := hb1.size; simp at this; omega); clear ho1 hb1)) | (refine qaJ rfl rfl rfl rfl rfl rfl ?_) | (go_at_call 100; ((with_reducible refine ((cm _ HB1.out).out).mono ?_); rintro e w2 ⟨rfl, hb2⟩; have HB2 := qh (HB1.out.trans (hb2.mono HB1.out.size)); have H2 := qh (H1.out.call hb2); have E1 := (D1.out.below hb2 D1.out.lt).cell; have E2 := qh (D2.out.below hb2 D2.out.lt); have E3 := qh (D3.out.below hb2 D3.out.lt); clear hb2)) | (go_at_call 101; ((with_reducible refine (qhO _ _).mono ?_); rintro e w3 ⟨rfl, rfl⟩)))
 have M0 : Mid w.heap.size w1.heap.size (w.heap.size + 1) (w.heap.size + 1 + 1) w2.heap.size ps w g (w2.alloc (.cells #[.pointer (some ⟨w1.heap.size, 0, none⟩)] 149)) :=
  ⟨H2.out.alloc _, E2.out.alloc _, E3.out.alloc _, Box.made _ _ _, HB2.out.alloc HB2.out.size _⟩
 generalize hW0 : w2.alloc (.cells #[.pointer (some ⟨w1.heap.size, 0, none⟩)] 149) = W0 at M0 ⊢
 generalize w2.heap.size = Bg at M0 ⊢
 generalize w1.heap.size = Bn at M0 s1 ⊢
 have MM0 := qh M0
 have fit0 : Fit (fun i => (g.ship i).on) g := ⟨hg.2.2.2.1, hg.way.qaa, hg.2.2.1, fun _ _ => rfl⟩
 have FIT := qh fit0
 have hfl0 : qek Bn Bg (fun i => (g.ship i).on) W0 := ⟨M0.fly.cell 0, fun k hk => M0.has.flags k hk⟩
 have HOK := qh hg
 clear hW0 M0 fit0 H1 D1 D2 D3 H2 E2 E3 HB2 HB1 E1 e0 fr co cm B1 B2 B3 HB hN hg
 refine (wpIn_wide (n := 10)).1 ?_
 refine wpIn_block ?_
 refine wpIn_rangeFunc_ownF (n := 10) (w := W0) rfl (by omega) (gf := 132) (lb := #[.pointer (some ⟨Bg, 0, none⟩)]) rfl trivial (enters_of Tryz.func132 (by kernel_rfl) rfl)
  (qeT (fun i => (g.ship i).on) Bn Bg _ W0 hfl0) qn6 (qn7 (n := W0.heap.size)) (Below.refl _ _) (fun _ => rfl)
  (fun pre W => Mid w.heap.size Bn (w.heap.size + 1) (w.heap.size + 1 + 1) Bg ps w (over ps g pre) W)
  (fun _ _ _ => False)
  (fun pre W W' row h hgr hr => h.turned (Nat.le_refl _) hgr (fun r e => ⟨Nat.le_trans MM0.out.below.size (hr r e).1, (hr r e).2⟩))
  (fun _ _ _ _ _ hs _ _ => hs)
  MM0.out
  (fun x => { tmps := #[.agg (Gm.cells g (.slice A n c)), .agg (Gm.qaI ps).toArray, .pointer (some ⟨w.heap.size, 0, none⟩), .pointer (some ⟨w.heap.size + 1, 0, none⟩), .pointer (some ⟨w.heap.size + 1 + 1, 0, none⟩), .int .i64 0,
   .pointer (some ⟨Bn, 0, none⟩), .int .i64 x.1, .pointer (some ⟨Bn, 2 + x.1 * 7, none⟩), undef,
   .agg (Gm.cells g (.slice A n c)), .agg (Gm.cells g (.slice A1 n c1)), .agg (Gm.cells g (.slice A n c)), .bool true, .bool false, undef,
   .pointer (some ⟨w.heap.size, 0, none⟩), .int .i64 g.frame, .bool false, undef, .func (.func 132) #[] #[.pointer (some ⟨Bg, 0, none⟩)], .int .i64 x.1, .pointer (some ⟨Bn, 2 + x.1 * 7, none⟩),
   undef, undef, undef, undef, undef, undef, undef, undef, undef, undef, undef, undef, undef, undef, undef, undef, undef], defers := [] }) ?assign ?body ?done ?stop
 case assign =>
  intro l x W K hK
  gi_wp2
  exact hK
 case body =>
  rintro l pre x W hM hlen
  have hfit := qlu (ps := ps) FIT.out pre
  generalize hX : over ps g pre = X at hM hfit
  have hsn : over ps g (pre ++ [x]) = qen ps X x.1 := by rw [qnN, hX]
  obtain ⟨k, hk, hon⟩ := x
  have hk8 : (k : Int) < 8 := by omega
  obtain ⟨pk, hpk⟩ : ∃ p, ps k = p := ⟨_, rfl⟩
  obtain ⟨px, py, pb⟩ := pk
  have hty := hp k hk
  rw [hpk] at hty
  obtain ⟨wx, wy, wp⟩ := hty
  dsimp only at wx wy wp
  have ch := fun Y => qh (qpc ⟨px, py, pb⟩ ⟨wx, wy, wp⟩ Y)
  have tx := Gf.qh2 wx
  have ty := Gf.qh2 wy
  have hstep := qnq ps X k (by rw [hfit.flags k hk]; exact hon) (hfit.qbV k hk).2.2.2.2.2.1
  rw [hpk] at hstep
  simp only [Gm.In.cells, Gm.qng] at ch
  dsimp only at hstep
  generalize Gf.tame px = TX at ch tx hstep
  generalize Gf.tame py = TY at ch ty hstep
  have hin := hM.ins.cell
  have hil := hM.ins.lt
  have q0 : (Gm.qaI ps).toArray[k * 3]? = some (.int .i8 px) := (Gm.qcl ps k 0 hk (by omega)).trans (by rw [hpk]; rfl)
  have q1 : (Gm.qaI ps).toArray[k * 3 + 1]? = some (.int .i8 py) := (Gm.qcl ps k 1 hk (by omega)).trans (by rw [hpk]; rfl)
  have q2 : (Gm.qaI ps).toArray[k * 3 + 2]? = some (.int .u8 pb) := (Gm.qcl ps k 2 hk (by omega)).trans (by rw [hpk]; rfl)
  have HM := qh hM
  have HX := qh hsn
  have HFIT := qh hfit
  have HST := qh hstep
  clear hM hsn hfit hstep hX hlen
  have hbB : w.heap.size <= Bn := by omega
  have hWn : Bn < W.heap.size := HM.out.has.lt
  have hty2 := (HFIT.out.qbV k hk).ty
  have hcool : 0 <= ((qb6 X k (qbI (X.ship k) TX TY)).ship k).cool /\ ((qb6 X k (qbI (X.ship k) TX TY)).ship k).cool <= 10 := by
   rw [show (qb6 X k (qbI (X.ship k) TX TY)).ship k = qbI (X.ship k) TX TY from Gm.upd_same _ _ _]
   have := HFIT.out.qbV k hk
   exact ⟨this.2.2.2.2.2.1, this.2.2.2.2.2.2.1⟩
  have HC := qh hcool
  have HTY := qh hty2
  clear hcool hty2
  gi_wp2_with (first | (gi_at_call 102; ((with_reducible refine (CallsIn.inRound l (callsIn_wide.2 (ch _).out)).mono ?_); rintro e v1 ⟨rfl, hb1⟩; have H1 := qh ((HM.out.has.call hb1).alloc (.cells #[.int .i8 TX, .int .i8 TY, .int .u8 pb] 48)); have K1 := qh (((Keep.refl hbB W).call hb1).alloc (.cells #[.int .i8 TX, .int .i8 TY, .int .u8 pb] 48)); have v1n : v1.heap.size ≠ Bn := (by have := hb1.size; omega); clear hb1)) | (refine ⟨trivial, ?_⟩; gi_at_call 102; ((with_reducible refine (CallsIn.inRound l (callsIn_wide.2 (ch _).out)).mono ?_); rintro e v1 ⟨rfl, hb1⟩; have H1 := qh ((HM.out.has.call hb1).alloc (.cells #[.int .i8 TX, .int .i8 TY, .int .u8 pb] 48)); have K1 := qh (((Keep.refl hbB W).call hb1).alloc (.cells #[.int .i8 TX, .int .i8 TY, .int .u8 pb] 48)); have v1n : v1.heap.size ≠ Bn := (by have := hb1.size; omega); clear hb1)) | (gi_at_call 103; ((with_reducible refine (CallsIn.inRound l (callsIn_wide.2 (qiX X w.heap.size Bn k TX TY pb _ hbB hk H1.out HTY.out (by omega) (by omega)))).mono ?_); rintro e v2 ⟨⟨r2, rfl⟩, hH2, hK2⟩; have H2 := qh hH2; have K2 := qh (K1.out.trans hK2); have D9 := (Box.made v1 48 #[.int .i8 TX, .int .i8 TY, .int .u8 pb]).keep hK2 v1n (by decide); have d9 := D9.cell; have l9 := D9.lt; clear hH2 hK2 D9)) | (refine ⟨trivial, ?_⟩; gi_at_call 103; ((with_reducible refine (CallsIn.inRound l (callsIn_wide.2 (qiX X w.heap.size Bn k TX TY pb _ hbB hk H1.out HTY.out (by omega) (by omega)))).mono ?_); rintro e v2 ⟨⟨r2, rfl⟩, hH2, hK2⟩; have H2 := qh hH2; have K2 := qh (K1.out.trans hK2); have D9 := (Box.made v1 48 #[.int .i8 TX, .int .i8 TY, .int .u8 pb]).keep hK2 v1n (by decide); have d9 := D9.cell; have l9 := D9.lt; clear hH2 hK2 D9)) | (gi_at_call 104; ((with_reducible refine (CallsIn.inRound l (callsIn_wide.2 (qi0 (qb6 X k (qbI (X.ship k) TX TY)) w.heap.size Bn k TX TY pb _ hbB hk H2.out HC.out (by omega) (by omega) wp))).mono ?_); rintro e v3 ⟨⟨r3, rfl⟩, hH3, hK3⟩; rw [HST.out] at hH3; have H3 := qh hH3; have K3 := qh (K2.out.trans hK3); clear hH3 hK3)) | (refine ⟨trivial, ?_⟩; gi_at_call 104; ((with_reducible refine (CallsIn.inRound l (callsIn_wide.2 (qi0 (qb6 X k (qbI (X.ship k) TX TY)) w.heap.size Bn k TX TY pb _ hbB hk H2.out HC.out (by omega) (by omega) wp))).mono ?_); rintro e v3 ⟨⟨r3, rfl⟩, hH3, hK3⟩; rw [HST.out] at hH3; have H3 := qh hH3; have K3 := qh (K2.out.trans hK3); clear hH3 hK3)))
  have M3 : Mid w.heap.size Bn (w.heap.size + 1) (w.heap.size + 1 + 1) Bg ps w (qen ps X k) v3 := HM.out.kept (Nat.le_refl _) (by omega) H3.out K3.out
  have fit3 := qgb (ps := ps) HFIT.out hk
  obtain ⟨A9, c9, hB9, _⟩ := HM.out.has
  refine ⟨K3.out.others hB9, fun _ => ⟨M3.fly.cell 0, fun i hi => (M3.has.flags i hi).trans (by rw [fit3.flags i hi])⟩, ?_⟩
  show Mid _ _ _ _ _ _ _ (over ps g (pre ++ [⟨k, hk, hon⟩])) v3
  rw [HX.out]
  exact M3
 case done =>
  rintro D xs W hD rfl hM hK
  have e1 := qoZ (on := fun i => (g.ship i).on) ps g (fun _ _ => rfl)
  have hM : Mid w.heap.size Bn (w.heap.size + 1) (w.heap.size + 1 + 1) Bg ps w (over ps g (qcR (fun i => (g.ship i).on) 8 0)) W := hM
  have hfit := qlu (ps := ps) FIT.out (qcR (fun i => (g.ship i).on) 8 0)
  rw [e1] at hM hfit
  obtain ⟨F, hF⟩ : ∃ F, F = (Gm.ph1 ps g 8).1 := ⟨_, rfl⟩
  obtain ⟨l, hl⟩ : ∃ l, l = (Gm.ph1 ps g 8).2 := ⟨_, rfl⟩
  rw [<- hF, <- hl] at hM hfit
  obtain ⟨fin, hfin⟩ : ∃ fin, fin = Gm.ph2 ⟨g.dice, F, []⟩ l := ⟨_, rfl⟩
  have hstep : Gm.step ps g = ⟨g.frame + 1, fin.dice, fin.ship, fin.left⟩ := by rw [hfin, hF, hl]; rfl
  have ck := qh (qo6 { g with ship := F, qaa := l } w.heap.size Bn W (by omega) hM.has hfit.qaa hfit.qbV hd hfit.len fin hfin)
  have hmf : ∀ (fn : Fn) (first cap : Array Value) (w : World), (Instr.makeFunc fn first cap).run Tryz.prog w = .ok (.func fn first cap) w := fun _ _ _ _ => rfl
  have hwrap : IntKind.i64.wrap (g.frame + 1) = g.frame + 1 := by rw [IntKind.wrap_i64]; have := HOK.out.1; omega
  have hDw : w.heap.size <= D := Nat.le_trans MM0.out.below.size hD
  have HMM := qh hM
  obtain ⟨A9, c9, hB9, _⟩ := hM.has
  have HB9 := qh hB9
  clear hB9
  have HK := qh hK
  have HST := qh hstep
  clear hM hfit hF hl hfin hstep e1 hK
  go_wp2_with (first | (go_at_call 105; ((with_reducible refine (ck.out).mono ?_); rintro e w4 ⟨rfl, h4, k4⟩; obtain ⟨A4, c4, B4, O4⟩ := h4; have ne4 : w.heap.size + 1 + 1 ≠ Bn := (by omega); have R4 := HMM.out.res.keep k4 ne4 (by decide); have b4 := B4.cell; have f4 := B4.free; have e4 := Gm.qaS { g with dice := fin.dice, ship := fin.ship, qaa := fin.left } (.slice A4 fin.left.length c4); have G5 := qh (qjY B4 (g.frame + 1)); have R5 := qh (R4.far (p := ⟨Bn, 0, none⟩) ne4 (.int .i64 (g.frame + 1))); have nO := B4.qaO O4 (by decide); have O5 := qh (ownsRow_setCell_other (a := ⟨Bn, 0, none⟩) O4 nO (.int .i64 (g.frame + 1))); have K5 := qh ((HMM.out.below.trans (k4.to HMM.out.below.size)).setCell (p := ⟨Bn, 0, none⟩) (by show w.heap.size <= Bn; omega) (.int .i64 (g.frame + 1))); have T5 := qh (((k4.others HB9.out).trans (KeepsOthers.setCell w4 ⟨Bn, 0, none⟩ (.int .i64 (g.frame + 1)))).same D _ HK.out rfl); clear B4 O4 R4 k4 nO)) | ((with_reducible refine qaG rfl rfl ?_); apply qaL.mk rfl; exact G5.out) | ((with_reducible refine qbe rfl rfl ?_); apply qbc.mk rfl rfl rfl; exact R5.out))
  have hDr : D ≠ w.heap.size + 1 + 1 := fun e => by
   have h1 := T5.out
   rw [e, R5.out.is] at h1
   injection h1 with h1
   cases h1
  have T6 : ((w4.setCell ⟨Bn, 0, none⟩ (.int .i64 (g.frame + 1))).setRow (w.heap.size + 1 + 1) (Gm.cells { g with frame := g.frame + 1, dice := fin.dice, ship := fin.ship, qaa := fin.left } (.slice A4 fin.left.length c4))).heap[D]? = some (.deferred (some [])) :=
   (setRow_other _ _ D _ hDr).trans T5.out
  refine ⟨by simp, .inl ⟨_, _, rfl, run_takeDeferred T6, ?_⟩⟩
  refine ⟨.tuple #[.agg (Gm.cells { g with frame := g.frame + 1, dice := fin.dice, ship := fin.ship, qaa := fin.left } (.slice A4 fin.left.length c4)), .int .i64 0], ?_, ?_⟩
  · exact results_cell_tmp (p := 4) (q := 5) rfl _ _ _ _ (Gm.cells { g with frame := g.frame + 1, dice := fin.dice, ship := fin.ship, qaa := fin.left } (.slice A4 fin.left.length c4)) _ rfl ((Box.row R5.out _).turned (grownBy_putObj' _ D (.deferred none)) (fun r e => by cases e; exact ⟨_, T6, rfl⟩)) Tryz.underlying33 rfl qbb
  · rw [HST.out]
    refine ⟨A4, c4, rfl, ?_, ?_, New6.owned O5.out⟩
    · exact Lies.owned (ownsRow_putObj (qbf O5.out (R5.out.qaO O5.out (by decide)) _) _ T6 rfl)
    · exact (Below.setRow' K5.out (by omega) _).grown (grownBy_putObj' _ D (.deferred none)) (by have := (Array.getElem?_eq_some_iff.1 T6).1; omega) (fun k e => by cases e; exact hDw)
 case stop =>
  rintro D c' pre W _ _ h _
  exact h.elim
end Go.Proofs.YtbdlpbnfcnhajaaGreat
namespace Go.Proofs.YtbdlpbnfcnhajaaGreat
open Go.RowKit
def tagV (v : Value) : Nat := match v with | .int .i64 _ => 1 | .int .i32 _ => 2 | _ => 0
def qf2 : List Nat := [1, 0] ++ ([0, 2, 2, 2, 2, 1, 1] ++ ([0, 2, 2, 2, 2, 1, 1] ++ ([0, 2, 2, 2, 2, 1, 1] ++ ([0, 2, 2, 2, 2, 1, 1] ++ ([0, 2, 2, 2, 2, 1, 1] ++ ([0, 2, 2, 2, 2, 1, 1] ++ ([0, 2, 2, 2, 2, 1, 1] ++ [0, 2, 2, 2, 2, 1, 1]))))))) ++ [0]
theorem qjL (g : Gm.G) (A : Option Addr) (n c : Nat) (o : Nat) : ((Gm.cells g (.slice A n c))[o]?).map tagV = qf2[o]? := by
 rw [show (Gm.cells g (.slice A n c))[o]? = (([Value.int .i64 g.frame, Value.int .u64 g.dice] ++ Gm.qax g.ship ++ [Value.slice A n c])[o]?) from by unfold Gm.cells; simp]
 rw [<- List.getElem?_map]
 rfl
theorem qgG : ∀ o, o < 59 -> ¬ (qf2[o]? = some 1 /\ qf2[o + 1]? = some 2) := by decide
theorem Lies.qlw {w : World} {B BG n m : Nat} {A A' : Option Addr} {c : Nat} {l : List Gm.Shot} {g : Gm.G} (h : Lies w B 6 A n (Gm.qab l)) (hn : n = l.length) (hB : Box w BG 33 (Gm.cells g (.slice A' m c))) (h0 : n ≠ 0) (ad : Addr) (e : A = some ad) : ad.block ≠ BG := by
 intro eb
 subst hn
 have hlt : 0 < l.length := by omega
 have hc := h.cell ad e h0
 have e0 := hc 0 (.int .i64 l[0].owner) (by have := Gm.qbq l 0 0 hlt (by omega); simpa [Gm.Shot.cells] using this)
 have e1 := hc 1 (.int .i32 l[0].x) (by have := Gm.qbq l 0 1 hlt (by omega); simpa [Gm.Shot.cells] using this)
 rw [show ad.add 0 = ad from rfl] at e0
 rw [show ad.add 1 = ⟨ad.block, ad.off + 1, none⟩ from rfl] at e1
 rw [eb, hB.cell] at e1
 have e0' : (Gm.cells g (.slice A' m c))[ad.off]? = some (.int .i64 l[0].owner) := by
  unfold World.cell? at e0
  rw [eb, hB.is] at e0
  dsimp only at e0
  split at e0
  · cases e0
  · exact e0
 have t0 := qjL g A' m c ad.off
 have t1 := qjL g A' m c (ad.off + 1)
 rw [e0'] at t0
 rw [e1] at t1
 have hlt' : ad.off < 59 := by have := (Array.getElem?_eq_some_iff.1 e0').1; rwa [Gm.qag] at this
 exact qgG _ hlt' ⟨t0.symm, t1.symm⟩
theorem Lies.qlI {w : World} {n BG m : Nat} {A A' : Option Addr} {c : Nat} {l : List Gm.Shot} {g : Gm.G} (h : Lies w w.heap.size 6 A n (Gm.qab l)) (hn : n = l.length) (hB : Box w BG 33 (Gm.cells g (.slice A' m c))) (cs : Array Value) : Lies (w.setRow BG cs) (w.setRow BG cs).heap.size 6 A n (Gm.qab l) := by
 refine ⟨h.len, fun hn => by obtain ⟨ad, e, hb⟩ := h.start hn; exact ⟨ad, e, by rw [setRow_size]; exact hb⟩, fun ad e h0 j u hu => ?_⟩
 have hne := h.qlw hn hB h0 ad e
 rw [World.cell?_of_block (w := w) (by rw [add_block]; exact setRow_other w BG _ cs hne)]
 exact h.cell ad e h0 j u hu
theorem Lies.alloc {w : World} {size n : Nat} {A : Option Addr} {xs : List Value} (h : Lies w w.heap.size size A n xs) (o : Obj) : Lies (w.alloc o) (w.alloc o).heap.size size A n xs :=
 (h.below (qac w o)).wider (qac w o).size
theorem Lies.call {w w' : World} {size n : Nat} {A : Option Addr} {xs : List Value} (h : Lies w w.heap.size size A n xs) (hb : Below w.heap.size w w') : Lies w' w'.heap.size size A n xs :=
 (h.below hb).wider hb.size
end Go.Proofs.YtbdlpbnfcnhajaaGreat
namespace Gm
open Go
def bit (m : Int) (k : Nat) : Bool := bits .and .i64 (m / 2 ^ k) 1 == 1
structure qpq (m : Int) (k : Nat) (g : G) : Prop where
 ok : Gm.ok g
 dice : 0 <= g.dice /\ g.dice <= 18446744073709551615
 frame : g.frame = 0
 qaa : g.qaa = []
 on : ∀ j, (g.ship j).on = (decide (j < k) && bit m j)
theorem qn5 (m d : Int) (hd : 0 <= d /\ d <= 18446744073709551615) : qpq m 0 (new d) := by
 refine ⟨⟨by show (0 : Int) <= 0; decide, by show (0 : Int) <= 1048576; decide, by show 0 <= 32; omega, fun i hi => ?_, fun i h => absurd h (by show ¬ i < 0; omega)⟩, hd, rfl, rfl, fun j => by simp [new, Ship.none]⟩
 exact (show qaT Ship.none from ⟨.inr rfl, by unfold inF Ship.none; decide, by unfold inF Ship.none; decide, by unfold slow Ship.none; decide, by unfold slow Ship.none; decide, by decide, by decide, by decide, by decide⟩)
theorem qpq.next {m : Int} {k : Nat} {g : G} (h : qpq m k g) (hk : k < 8) : qpq m (k + 1) (if bit m k = true then spawn g k else g) := by
 by_cases hb : bit m k = true
 · rw [if_pos hb]
   have hp := qeL g.dice
   refine ⟨⟨h.ok.1, h.ok.2.1, h.ok.2.2.1, fun i hi => ?_, h.ok.2.2.2.2⟩, hp.2.2, h.frame, h.qaa, fun j => ?_⟩
   · show qaT (upd _ _ _ _)
     unfold upd
     split
     · exact ⟨.inl rfl, hp.1, hp.2.1, by unfold slow; dsimp only; omega, by unfold slow; dsimp only; omega, by dsimp only; omega, by dsimp only; omega, by dsimp only; omega, by dsimp only; omega⟩
     · exact h.ok.2.2.2.1 i hi
   · show (upd g.ship k _ j).on = _
     unfold upd
     by_cases e : j = k
     · subst e; simp [hb]
     · rw [if_neg e, h.on j]
       by_cases hlt : j < k
       · simp [hlt, show j < k + 1 by omega]
       · simp [hlt, show ¬ j < k + 1 by omega]
 · rw [if_neg hb]
   refine ⟨h.ok, h.dice, h.frame, h.qaa, fun j => ?_⟩
   rw [h.on j]
   by_cases e : j = k
   · subst e; simp at hb; simp [hb]
   · by_cases hlt : j < k
     · simp [hlt, show j < k + 1 by omega]
     · simp [hlt, show ¬ j < k + 1 by omega]
theorem qgI (p : In) (n : Nat) (s : Ship) : (moved p n s).on = s.on /\ (moved p n s).score = s.score := by
 unfold moved; split
 · rename_i h; exact ⟨h.symm, rfl⟩
 · exact ⟨rfl, rfl⟩
theorem qjv (ps : Nat -> In) (g : G) : ∀ k j, ((ph1 ps g k).1 j).on = (g.ship j).on /\ ((ph1 ps g k).1 j).score = (g.ship j).score
 | 0, _ => ⟨rfl, rfl⟩
 | k + 1, j => by
  have ih := qjv ps g k
  show ((upd (ph1 ps g k).1 k _ j)).on = _ /\ (upd (ph1 ps g k).1 k _ j).score = _
  unfold upd
  split
  · rename_i e; subst e
    exact ⟨(qgI _ _ _).1.trans (ih j).1, (qgI _ _ _).2.trans (ih j).2⟩
  · exact ih j
def qe6 (f f' : Nat -> Ship) : Prop := ∀ j, j < 8 -> (f' j).on = (f j).on /\ (f j).score <= (f' j).score
theorem qe6.refl (f : Nat -> Ship) : qe6 f f := fun _ _ => ⟨rfl, Int.le_refl _⟩
theorem qe6.trans {f g h : Nat -> Ship} (h1 : qe6 f g) (h2 : qe6 g h) : qe6 f h := fun j hj => ⟨(h2 j hj).1.trans (h1 j hj).1, Int.le_trans (h1 j hj).2 (h2 j hj).2⟩
theorem qm1 {d : Int} {f : Nat -> Ship} {k : Nat} (hon : (f k).on = true) : qe6 f (anew d f k) := fun j hj => by
 unfold anew upd
 split
 · rename_i e; subst e; exact ⟨hon.symm, Int.le_refl _⟩
 · exact ⟨rfl, Int.le_refl _⟩
theorem qmB {f : Nat -> Ship} {o : Nat} (h : ∀ i, i < 8 -> qaT (f i)) : qe6 f (more f o) := fun j hj => by
 unfold more
 split
 · unfold upd
   split
   · rename_i e; subst e
     have := (h j hj).2.2.2.2.2.2.2.2
     exact ⟨rfl, by dsimp only; omega⟩
   · exact ⟨rfl, Int.le_refl _⟩
 · exact ⟨rfl, Int.le_refl _⟩
theorem qkh {st : St} {s : Shot} (h : Way2 st) : qe6 st.ship (qec st s).ship := by
 unfold qec
 split
 · exact qe6.refl _
 · split
   · exact qe6.refl _
   · rename_i hh
     rcases qn2 st.ship (fly s) with e | ⟨k, e, hk, h1⟩
     · rw [e] at hh; exact absurd (by decide) hh
     · rw [e]
       have hon : (st.ship k).on = true := by unfold qcr at h1; simp at h1; exact h1.1
       exact (qm1 (d := st.dice) (by simpa using hon)).trans (qmB (qoq h.qbV (by simpa using hk)))
theorem qju {st : St} {l : List Shot} (h : Way2 st) (hl : ∀ t ∈ l, qa5 t) : ∀ j, j <= l.length -> qe6 st.ship (ph2 st (l.take j)).ship
 | 0, _ => by simpa [ph2] using qe6.refl st.ship
 | j + 1, hj => by
  have ih := qju h hl j (by omega)
  rw [qfY st l j (by omega)]
  exact ih.trans (qkh (qgD h hl j (by omega)).1)
structure Good (g : G) : Prop where
 ok : Gm.ok g
 dice : 0 <= g.dice /\ g.dice <= 18446744073709551615
theorem qnh {ps : Nat -> In} {g : G} (h : Good g) (hf : g.frame < 1048576) : Good (step ps g) /\ (step ps g).frame = g.frame + 1 /\ qe6 g.ship (step ps g).ship := by
 have w8 := qiq (ps := ps) h.ok 8 (by omega)
 have st0 : Way2 ⟨g.dice, (ph1 ps g 8).1, []⟩ := ⟨w8.qbV, fun t ht => (by cases ht), h.dice⟩
 have hw := qgD st0 w8.qaa (ph1 ps g 8).2.length (Nat.le_refl _)
 have hr := qju st0 w8.qaa (ph1 ps g 8).2.length (Nat.le_refl _)
 rw [List.take_length] at hw hr
 have hok := h.ok
 refine ⟨⟨⟨?_, ?_, ?_, hw.1.qbV, fun i hi => hw.1.left _ (List.getElem_mem hi)⟩, hw.1.dice⟩, rfl, fun j hj => ?_⟩
 · show 0 <= g.frame + 1; have := hok.1; omega
 · show g.frame + 1 <= 1048576; omega
 · have h1 := hw.2
   have h2 := w8.len
   simp only [List.length_nil, Nat.zero_add] at h1
   exact Nat.le_trans h1 h2
 · have h1 := qjv ps g 8 j
   have h2 := hr j hj
   exact ⟨h2.1.trans h1.1, by rw [<- h1.2]; exact h2.2⟩
end Gm
namespace Go.Proofs.YtbdlpbnfcnhajaaGreat
open Go.RowKit Go.Shelf
theorem Fd.qpJ {r : Ros.R} {k : Nat} {p : Int} (h : Ros.qbD r k p) : Ros.Ok (Ros.take r k p) := by
 obtain ⟨⟨⟨⟨hok, hv⟩, h0, h8⟩, hp, ho⟩, hpk, hgk⟩ := h
 have hk : k < 8 := by omega
 obtain ⟨h1, h2, h3⟩ := Ros.qgF.1 hok
 have hof := Ros.qlx hok hp.1 hp.2
 have hnone : ∀ j, j < 8 -> r.peer j ≠ p := by
  rcases hof with ⟨_, h⟩ | ⟨j, _, e, _⟩
  · exact h
  · rw [ho] at e; omega
 have hgk' : r.gen k ≠ 60000 := hgk
 refine Ros.qgF.2 ⟨?_, fun j hj => ?_, fun i j hij hj => ?_⟩
 · show 0 <= r.version + 1 /\ r.version + 1 <= 1073741824
   omega
 · by_cases e : j = k
   · subst e
     have hs := (h2 j hj).1
     show (0 <= Ros.upd r.gen j _ j /\ Ros.upd r.gen j _ j <= 60000) /\ (Ros.upd r.peer j p j = -1 \/ ((0 <= Ros.upd r.peer j p j /\ Ros.upd r.peer j p j < 12) /\ 0 < Ros.upd r.gen j _ j))
     rw [Ros.upd_same, Ros.upd_same]
     exact ⟨by omega, .inr ⟨hp, by omega⟩⟩
   · show (0 <= Ros.upd r.gen k _ j /\ Ros.upd r.gen k _ j <= 60000) /\ (Ros.upd r.peer k p j = -1 \/ ((0 <= Ros.upd r.peer k p j /\ Ros.upd r.peer k p j < 12) /\ 0 < Ros.upd r.gen k _ j))
     rw [Ros.qbp _ _ e, Ros.qbp _ _ e]
     exact h2 j hj
 · show Ros.upd r.peer k p i = -1 \/ Ros.upd r.peer k p i ≠ Ros.upd r.peer k p j
   by_cases e : i = k
   · subst e
     rw [Ros.upd_same, Ros.qbp _ _ (by omega)]
     exact .inr (fun e => hnone j hj e.symm)
   · rw [Ros.qbp _ _ e]
     by_cases e' : j = k
     · subst e'
       rw [Ros.upd_same]
       exact .inr (hnone i (by omega))
     · rw [Ros.qbp _ _ e']
       exact h3 i j hij hj
theorem Fd.qqb {r : Ros.R} {k : Nat} (h : Ros.qbM r k) : Ros.Ok (Ros.give r k) := by
 obtain ⟨⟨⟨hok, hv⟩, h0, h8⟩, hp⟩ := h
 have hk : k < 8 := by omega
 obtain ⟨h1, h2, h3⟩ := Ros.qgF.1 hok
 refine Ros.qgF.2 ⟨?_, fun j hj => ?_, fun i j hij hj => ?_⟩
 · show 0 <= r.version + 1 /\ r.version + 1 <= 1073741824
   omega
 · show (0 <= r.gen j /\ r.gen j <= 60000) /\ (Ros.upd r.peer k (-1) j = -1 \/ ((0 <= Ros.upd r.peer k (-1) j /\ Ros.upd r.peer k (-1) j < 12) /\ 0 < r.gen j))
   by_cases e : j = k
   · subst e
     rw [Ros.upd_same]
     exact ⟨(h2 j hj).1, .inl rfl⟩
   · rw [Ros.qbp _ _ e]
     exact h2 j hj
 · show Ros.upd r.peer k (-1) i = -1 \/ Ros.upd r.peer k (-1) i ≠ Ros.upd r.peer k (-1) j
   by_cases e : i = k
   · subst e
     rw [Ros.upd_same]
     exact .inl rfl
   · rw [Ros.qbp _ _ e]
     by_cases e' : j = k
     · subst e'
       rw [Ros.upd_same]
       by_cases e2 : r.peer i = -1
       · exact .inl e2
       · exact .inr e2
     · rw [Ros.qbp _ _ e']
       exact h3 i j hij hj
namespace Fd
structure S where
 g : Gm.G
 r : Ros.R
structure Fine (s : S) : Prop where
 ok : Im.Ok s.g s.r
 dice : 0 <= s.g.dice /\ s.g.dice <= 18446744073709551615
theorem Fine.good {s : S} (h : Fine s) : Gm.Good s.g := ⟨h.ok.1, h.dice⟩
def qcy (s : S) (v : En.Ev) : Prop :=
 (v.kind = 1 /\ Ros.qbD s.r v.slot v.peer /\ v.gen = s.r.gen v.slot.toNat + 1) \/ (v.kind = 2 /\ Ros.qbM s.r v.slot /\ s.r.peer v.slot.toNat = v.peer /\ s.r.gen v.slot.toNat = v.gen)
instance (s : S) (v : En.Ev) : Decidable (qcy s v) := by unfold qcy; infer_instance
def after (s : S) (v : En.Ev) : S := if v.kind = 1 then ⟨Gm.spawn s.g v.slot.toNat, Ros.take s.r v.slot.toNat v.peer⟩ else ⟨Gm.remove s.g v.slot.toNat, Ros.give s.r v.slot.toNat⟩
def change (s : S) (v : En.Ev) : Option S := if qcy s v then some (after s v) else none
def changes : S -> List En.Ev -> Option S
 | s, [] => some s
 | s, v :: l => (change s v).bind fun t => changes t l
def Idle (r : Ros.R) (ps : Nat -> Gm.In) : Prop := ∀ k, k < 8 -> r.peer k < 0 -> En.zero (ps k) = true
instance (r : Ros.R) (ps : Nat -> Gm.In) : Decidable (Idle r ps) := by unfold Idle; infer_instance
def May (s : S) (e : En.E) : Prop := Im.Ok s.g s.r /\ En.Ok e /\ e.frame = s.g.frame
open Classical in
noncomputable def apply (s : S) (e : En.E) : Option S := if May s e then (changes s e.evs).bind fun t => if Idle t.r e.inp then some ⟨Gm.step e.inp t.g, t.r⟩ else none else none
noncomputable def run : S -> List En.E -> Option S
 | s, [] => some s
 | s, e :: l => (apply s e).bind fun t => run t l
def start (d : Int) : S := ⟨Gm.new d, Ros.new⟩
theorem qk9 (s : S) : changes s [] = some s := rfl
theorem qfL (s : S) (v : En.Ev) (l : List En.Ev) : changes s (v :: l) = (change s v).bind fun t => changes t l := rfl
theorem qei (l m : List En.Ev) : ∀ s, changes s (l ++ m) = (changes s l).bind fun t => changes t m := by
 induction l with
 | nil => intro s; rfl
 | cons v l ih =>
  intro s
  show (change s v).bind (fun t => changes t (l ++ m)) = ((change s v).bind fun t => changes t l).bind fun t => changes t m
  cases h : change s v with
  | none => rfl
  | some t => exact ih t
theorem qd8 {s : S} {v : En.Ev} (h : qcy s v) : change s v = some (after s v) := if_pos h
theorem qeX {s : S} {v : En.Ev} (h : ¬ qcy s v) : change s v = none := if_neg h
theorem qk8 (s : S) (v : En.Ev) : changes s [v] = change s v := by
 show (change s v).bind (fun t => some t) = change s v
 cases change s v <;> rfl
theorem qh3 {r : Ros.R} {v : En.Ev} (h : Ros.qbD r v.slot v.peer) : ∃ k : Nat, k < 8 /\ v.slot = k /\ v.slot.toNat = k /\ r.peer k = -1 /\ Ros.qbD r k v.peer /\ 0 <= v.peer := by
 obtain ⟨⟨⟨⟨hok, hv⟩, h0, h8⟩, hp, ho⟩, hpk, hgk⟩ := id h
 have e : v.slot = (v.slot.toNat : Int) := by omega
 exact ⟨v.slot.toNat, by omega, e, rfl, hpk, by rw [<- e]; exact h, hp.1⟩
theorem qiC {r : Ros.R} {v : En.Ev} (h : Ros.qbM r v.slot) : ∃ k : Nat, k < 8 /\ v.slot = k /\ v.slot.toNat = k /\ 0 <= r.peer k /\ Ros.qbM r k := by
 obtain ⟨⟨⟨hok, hv⟩, h0, h8⟩, hp⟩ := id h
 have e : v.slot = (v.slot.toNat : Int) := by omega
 have hs := hok.seat v.slot.toNat (by omega)
 refine ⟨v.slot.toNat, by omega, e, rfl, ?_, by rw [<- e]; exact h⟩
 rcases hs.2 with h1 | h1
 · exact absurd h1 hp
 · exact h1.1.1
theorem qi2 : Gm.qaT Gm.Ship.none := ⟨.inr rfl, by unfold Gm.inF Gm.Ship.none; decide, by unfold Gm.inF Gm.Ship.none; decide, by unfold Gm.slow Gm.Ship.none; decide, by unfold Gm.slow Gm.Ship.none; decide, by decide, by decide, by decide, by decide⟩
theorem qoH {g : Gm.G} (h : Gm.ok g) (k : Nat) : Gm.ok (Gm.spawn g k) := by
 have hp := Gm.qeL g.dice
 refine ⟨h.1, h.2.1, h.2.2.1, fun i hi => ?_, h.2.2.2.2⟩
 show Gm.qaT (Gm.upd _ _ _ _)
 unfold Gm.upd
 split
 · exact ⟨.inl rfl, hp.1, hp.2.1, by unfold Gm.slow; dsimp only; omega, by unfold Gm.slow; dsimp only; omega, by dsimp only; omega, by dsimp only; omega, by dsimp only; omega, by dsimp only; omega⟩
 · exact h.2.2.2.1 i hi
theorem qnJ {g : Gm.G} (h : Gm.ok g) (k : Nat) : Gm.ok (Gm.remove g k) := by
 refine ⟨h.1, h.2.1, Nat.le_trans (List.length_filter_le _ _) h.2.2.1, fun i hi => ?_, fun i hi => ?_⟩
 · show Gm.qaT (Gm.upd _ _ _ _)
   unfold Gm.upd
   split
   · exact qi2
   · exact h.2.2.2.1 i hi
 · have hm := (List.mem_filter.1 (List.getElem_mem hi)).1
   obtain ⟨j, hj, e⟩ := List.getElem_of_mem hm
   rw [<- e]
   exact h.2.2.2.2 j hj
theorem Fine.after {s : S} {v : En.Ev} (h : Fine s) (hv : qcy s v) : Fine (Fd.after s v) /\ (Fd.after s v).g.frame = s.g.frame := by
 rcases hv with ⟨hk, ht, hg⟩ | ⟨hk, ht, hp, hg⟩
 · obtain ⟨k, hk8, e, e', hpk, ht', hp0⟩ := qh3 ht
   unfold Fd.after
   rw [if_pos hk, e']
   refine ⟨⟨⟨qoH h.ok.1 k, qpJ ht', fun j hj => ?_⟩, (Gm.qeL s.g.dice).2.2⟩, rfl⟩
   show (Gm.upd s.g.ship k _ j).on = decide (0 <= Ros.upd s.r.peer k v.peer j)
   unfold Gm.upd Ros.upd
   by_cases ej : j = k
   · rw [if_pos ej, if_pos ej]; exact (decide_eq_true hp0).symm
   · rw [if_neg ej, if_neg ej]; exact h.ok.2.2 j hj
 · obtain ⟨k, hk8, e, e', hpk, ht'⟩ := qiC ht
   unfold Fd.after
   rw [if_neg (by omega), e']
   refine ⟨⟨⟨qnJ h.ok.1 k, qqb ht', fun j hj => ?_⟩, h.dice⟩, rfl⟩
   show (Gm.upd s.g.ship k _ j).on = decide (0 <= Ros.upd s.r.peer k (-1) j)
   unfold Gm.upd Ros.upd
   by_cases ej : j = k
   · rw [if_pos ej, if_pos ej]; rfl
   · rw [if_neg ej, if_neg ej]; exact h.ok.2.2 j hj
theorem Fine.changes {l : List En.Ev} : ∀ {s t : S}, Fine s -> Fd.changes s l = some t -> Fine t /\ t.g.frame = s.g.frame := by
 induction l with
 | nil => intro s t h e; injection e with e; subst e; exact ⟨h, rfl⟩
 | cons v l ih =>
  intro s t h e
  rw [qfL] at e
  by_cases hv : qcy s v
  · rw [qd8 hv] at e
    obtain ⟨h1, h2⟩ := h.after hv
    obtain ⟨h3, h4⟩ := ih h1 e
    exact ⟨h3, h4.trans h2⟩
  · rw [qeX hv] at e; cases e
theorem Fine.step {s : S} (h : Fine s) (ps : Nat -> Gm.In) (hf : s.g.frame < 1048576) : Fine ⟨Gm.step ps s.g, s.r⟩ /\ (Gm.step ps s.g).frame = s.g.frame + 1 := by
 obtain ⟨h1, h2, h3⟩ := Gm.qnh (ps := ps) h.good hf
 exact ⟨⟨⟨h1.ok, h.ok.2.1, fun k hk => (h3 k hk).1.trans (h.ok.2.2 k hk)⟩, h1.dice⟩, h2⟩
theorem qpl {s : S} {e : En.E} (h : ¬ May s e) : apply s e = none := by unfold apply; rw [if_neg h]
theorem qe1 {s : S} {e : En.E} (h : May s e) : apply s e = (Fd.changes s e.evs).bind fun t => if Idle t.r e.inp then some ⟨Gm.step e.inp t.g, t.r⟩ else none := by unfold apply; rw [if_pos h]
theorem qfp {s u : S} {e : En.E} (h : apply s e = some u) : May s e /\ ∃ t, Fd.changes s e.evs = some t /\ Idle t.r e.inp /\ u = ⟨Gm.step e.inp t.g, t.r⟩ := by
 by_cases hm : May s e
 · rw [qe1 hm] at h
   cases hc : Fd.changes s e.evs with
   | none => rw [hc] at h; cases h
   | some t =>
    rw [hc] at h
    by_cases hi : Idle t.r e.inp
    · rw [Option.bind_some, if_pos hi] at h
      injection h with h
      exact ⟨hm, t, rfl, hi, h.symm⟩
    · rw [Option.bind_some, if_neg hi] at h; cases h
 · rw [qpl hm] at h; cases h
theorem Fine.apply {s u : S} {e : En.E} (hs : Fine s) (h : Fd.apply s e = some u) : Fine u /\ u.g.frame = s.g.frame + 1 /\ e.frame = s.g.frame := by
 obtain ⟨hm, t, hc, hi, rfl⟩ := qfp h
 obtain ⟨h1, h2⟩ := hs.changes hc
 have hf : t.g.frame < 1048576 := by have := hm.2.1.frame; have := hm.2.2; omega
 obtain ⟨h3, h4⟩ := h1.step e.inp hf
 exact ⟨h3, h4.trans (by rw [h2]), hm.2.2⟩
theorem qoR (s : S) (e : En.E) (l : List En.E) : run s (e :: l) = (Fd.apply s e).bind fun t => run t l := rfl
theorem qnz (s : S) (e : En.E) : run s [e] = Fd.apply s e := by
 show (Fd.apply s e).bind (fun t => some t) = _
 cases Fd.apply s e <;> rfl
theorem qfb (l m : List En.E) : ∀ s, run s (l ++ m) = (run s l).bind fun t => run t m := by
 induction l with
 | nil => intro s; rfl
 | cons v l ih =>
  intro s
  show (Fd.apply s v).bind (fun t => run t (l ++ m)) = ((Fd.apply s v).bind fun t => run t l).bind fun t => run t m
  cases h : Fd.apply s v with
  | none => rfl
  | some t => exact ih t
theorem Fine.run {l : List En.E} : ∀ {s t : S}, Fine s -> Fd.run s l = some t -> Fine t /\ t.g.frame = s.g.frame + l.length := by
 induction l with
 | nil => intro s t h e; injection e with e; subst e; exact ⟨h, by simp⟩
 | cons v l ih =>
  intro s t h e
  rw [qoR] at e
  cases hv : Fd.apply s v with
  | none => rw [hv] at e; cases e
  | some u =>
   rw [hv] at e
   obtain ⟨h1, h2, _⟩ := h.apply hv
   obtain ⟨h3, h4⟩ := ih h1 e
   refine ⟨h3, h4.trans ?_⟩
   rw [h2, List.length_cons]; push_cast; omega
theorem qbN {d : Int} (hd : 0 <= d /\ d <= 18446744073709551615) : Fine (start d) := by
 have h := Gm.qn5 0 d hd
 refine ⟨⟨h.ok, ?_, fun k hk => ?_⟩, h.dice⟩
 · show Ros.Ok Ros.new; decide +kernel
 · rfl
end Fd
end Go.Proofs.YtbdlpbnfcnhajaaGreat