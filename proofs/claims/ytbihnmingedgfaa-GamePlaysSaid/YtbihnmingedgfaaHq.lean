/-
The program's game: who is hit.
-/
import Derived.Test.YtbihnmingedgfaaHo
import Derived.Deep.CutRange
import Derived.Deep.CutBlock
import Derived.Deep.DeepCutAuto
namespace Go.Proofs.Ytbihnmingedgfaa
open Go.RowKit Go.Shelf
set_option linter.unusedVariables false

/-- A game lies in block B; its shots are the slice of A, with room for c. -/
structure HasAt (b B : Nat) (A : Option Addr) (c : Nat) (g : Gm.G) (w : World) : Prop where
  game : Box w B 30 (Gm.cells g (.slice A g.shots.length c))
  own : w.ownsRow b 108 6 (.slice A g.shots.length c) g.shots.length (Gm.shotCells g.shots)
section
variable {b B c : Nat} {A : Option Addr} {g g' : Gm.G} {w w' : World}
theorem HasAt.has (h : HasAt b B A c g w) : Has b B g w := ⟨A, c, h.game, h.own⟩
theorem HasAt.alloc (h : HasAt b B A c g w) (o : Obj) : HasAt b B A c g (w.alloc o) := ⟨h.game.alloc o, h.own.alloc o⟩
theorem HasAt.drew (h : HasAt b B A c g w) : HasAt b B A c g w.drew := ⟨h.game.drew, h.own.drew⟩
theorem HasAt.call (h : HasAt b B A c g w) (hb : Below w.heap.size w w') : HasAt b B A c g w' := ⟨h.game.below hb h.game.lt, own_below h.own hb (Nat.le_refl _)⟩
theorem HasAt.offRow {p : Nat} {t : TypeId} {cs : Array Value} (h : HasAt b B A c g w) (hne : p ≠ B) (hp : Box w p t cs) (ht : t ≠ 108) (cs' : Array Value) : HasAt b B A c g (w.setRow p cs') :=
  ⟨h.game.row_far (fun e => hne e.symm) cs', own_setRow h.own (hp.unowned h.own (fun e => ht e.symm)) cs'⟩
theorem HasAt.off {p : Addr} {t : TypeId} {cs : Array Value} (h : HasAt b B A c g w) (hne : p.block ≠ B) (hp : Box w p.block t cs) (ht : t ≠ 108) (u : Value) : HasAt b B A c g (w.setCell p u) :=
  ⟨h.game.far (fun e => hne e.symm) u, ownsRow_setCell_other h.own (hp.unowned h.own (fun e => ht e.symm)) u⟩
theorem HasAt.put (h : HasAt b B A c g w) (hs : g'.shots = g.shots) (hB : ∀ s, Box w B 30 (Gm.cells g s) → Box w' B 30 (Gm.cells g' s)) (hk : ∀ k, k ≠ B → w'.heap[k]? = w.heap[k]?) : HasAt b B A c g' w' := by
  obtain ⟨h, h'⟩ := h
  refine ⟨by rw [hs]; exact hB _ h, ?_⟩
  rw [hs]
  have hne := h.unowned h' (by decide)
  obtain ⟨hl, e | ⟨gg, cap, cur, hv, hbg, hgg, hr⟩⟩ := h'
  · exact ⟨hl, .inl e⟩
  · refine ⟨hl, .inr ⟨gg, cap, cur, hv, hbg, (hk gg (fun e => hne (by rw [hv, e]; rfl))).trans hgg, hr⟩⟩
theorem HasAt.stored (h : HasAt b B A c g w) {k : Nat} (hk : k < 8) (s : Gm.Ship) : HasAt b B A c { g with ship := Gm.upd g.ship k s } (stored w B k s) :=
  h.put rfl (fun _ hB => blk_ship hB hk s) (fun j hj => stored_else s j hj)
theorem HasAt.field {k : Nat} (h : HasAt b B A c g w) {t' : Gm.Ship} {i : Nat} {u : Value} (he : ∀ s, (Gm.cells (shipG g k (g.ship k)) s).setIfInBounds i u = Gm.cells (shipG g k t') s) : HasAt b B A c (shipG g k t') (w.setCell ⟨B, i, none⟩ u) :=
  h.put rfl (fun s hB => he s ▸ (by rw [shipG, Gm.upd_self]; exact hB.put i u)) (fun j hj => heap_setCell_other _ _ j _ hj)
end

set_option maxRecDepth 100000 in
set_option maxHeartbeats 1000000 in
theorem place_at (g : Gm.G) (b B : Nat) (A : Option Addr) (c : Nat) (sc : Int) (x y d : Int) (w : World) (hbB : b ≤ B) (h : HasAt b B A c g w) (hd : 0 ≤ g.dice ∧ g.dice ≤ 18446744073709551615)
    (hx : Dn.share (Dn.next g.dice) 16777216 = x) (hy : Dn.share (Dn.next (Dn.next g.dice)) 16777216 = y) (hdd : Dn.next (Dn.next g.dice) = d) :
    Calls Try.prog 55 #[.pointer (some ⟨B, 0, none⟩), .int .i64 sc] w fun e w' => e = .returned (.agg #[.bool true, .int .i32 x, .int .i32 y, .int .i32 0, .int .i32 0, .int .i64 0, .int .i64 sc]) ∧ HasAt b B A c { g with dice := d } w' ∧ Keep b B w w' := by
  have c1 := fun X => Lib.hid (place_any g.dice hd X)
  rw [hx, hy, hdd] at c1
  have HH := Lib.hid (h.alloc (.cells #[.bool false, .int .i32 0, .int .i32 0, .int .i32 0, .int .i32 0, .int .i64 0, .int .i64 0] 26))
  have HK := Lib.hid ((Keep.refl hbB w).alloc (.cells #[.bool false, .int .i32 0, .int .i32 0, .int .i32 0, .int .i32 0, .int .i64 0, .int .i64 0] 26))
  have hBs := h.game.lt
  have bT : Box (w.alloc (.cells #[.bool false, .int .i32 0, .int .i32 0, .int .i32 0, .int .i32 0, .int .i64 0, .int .i64 0] 26)) w.heap.size 26 #[.bool false, .int .i32 0, .int .i32 0, .int .i32 0, .int .i32 0, .int .i64 0, .int .i64 0] := Box.made _ _ _
  have BT := Lib.hid bT
  have BG := Lib.hid (h.game.alloc (.cells #[.bool false, .int .i32 0, .int .i32 0, .int .i32 0, .int .i32 0, .int .i64 0, .int .i64 0] 26))
  have hc := BG.out.cell
  have e1 := Gm.cells_1 g (.slice A g.shots.length c)
  clear bT h hx hy hdd
  go_enter Try.func55, Try.ntmps55
  go_wp2_with (first | (go_at_call 106; ((with_reducible refine ((c1 _).out).mono ?_); rintro e w1 ⟨rfl, hb⟩; have D1 := BG.out.below hb (by simp <;> omega); have T1 := BT.out.below hb (by simp <;> omega); have k1 := D1.cell; have f1 := D1.free; have H1 := Lib.hid (HH.out.call hb); have K1 := Lib.hid ((HK.out.call hb).put 1 (.int .u64 d)); have ne1 : w.heap.size ≠ B := (by omega); have T2 := Lib.hid (T1.far (p := ⟨B, 1, none⟩) ne1 (.int .u64 d)); clear D1 T1 hb ne1)) | (refine wpList_build_is rfl (t := 26) (vs := [(0, .bool true), (1, .int .i32 x), (2, .int .i32 y), (6, .int .i64 sc)]) rfl rfl (built_ship _ _ _) ?_) | ((with_reducible refine blk_gate (t := 26) rfl rfl ship7_info ?_); apply StoreBlk.mk rfl rfl; exact T2.out; (focus (simp [Value.oneCell'])); (focus rfl); (focus rfl)))
  refine bodyPost_ret (v := .agg #[.bool true, .int .i32 x, .int .i32 y, .int .i32 0, .int .i32 0, .int .i64 0, .int .i64 sc]) ?_ ?_ ?_
  · exact results_cell_row rfl _ _ _ _ #[.bool true, .int .i32 x, .int .i32 y, .int .i32 0, .int .i32 0, .int .i64 0, .int .i64 sc] (0, 0) _ rfl (Box.row T2.out _).is Try.underlying26 rfl ship7_info
  · rfl
  · refine ⟨rfl, ?_, K1.out.freshRow (Nat.le_refl _) _⟩
    have h2 : HasAt b B A c { g with dice := d } (w1.setCell ⟨B, 1, none⟩ (.int .u64 d)) := H1.out.put rfl (fun _ hB => blk_dice hB d) (fun j hj => heap_setCell_other _ _ j _ hj)
    exact h2.offRow (by omega) T2.out (by decide) _

set_option maxRecDepth 100000 in
set_option maxHeartbeats 4000000 in
theorem hit_walk (g : Gm.G) (b B : Nat) (A : Option Addr) (c kh o : Nat) (x y d : Int) (w : World) (hbB : b ≤ B) (hk : kh < 8) (ho : o < 8) (h : HasAt b B A c g w) (hd : 0 ≤ g.dice ∧ g.dice ≤ 18446744073709551615) (hs : ∀ i, i < 8 → 0 ≤ (g.ship i).score ∧ (g.ship i).score ≤ 1073741824)
    (hx : Dn.share (Dn.next g.dice) 16777216 = x) (hy : Dn.share (Dn.next (Dn.next g.dice)) 16777216 = y) (hdd : Dn.next (Dn.next g.dice) = d) :
    Calls Try.prog 113 #[.pointer (some ⟨B, 0, none⟩), .pointer (some ⟨B, 2 + kh * 7, none⟩), .int .i64 o] w fun e w' => e = .returned (.tuple #[]) ∧ HasAt b B A c { g with dice := d, ship := Gm.more (Gm.upd g.ship kh ⟨true, x, y, 0, 0, 0, (g.ship kh).score⟩) o } w' ∧ Keep b B w w' := by
  have cp := fun sc X (hX : HasAt b B A c g X) => Lib.hid (place_at g b B A c sc x y d X hbB hX hd hx hy hdd)
  have hc := h.game.cell
  have s6 := Gm.cells_ship g (.slice A g.shots.length c) kh 6 hk (by omega)
  simp only [Gm.Ship.cells, List.getElem?_cons_zero, List.getElem?_cons_succ] at s6
  obtain ⟨t, ht⟩ : ∃ t, t = g.ship kh := ⟨_, rfl⟩
  have q0 : ∀ s, (Gm.cells { g with dice := d } s)[2 + kh * 7]? = some (.bool t.on) := fun s => (Gm.cells_ship { g with dice := d } s kh 0 hk (by omega)).trans (by rw [ht]; rfl)
  have q1 : ∀ s, (Gm.cells { g with dice := d } s)[2 + kh * 7 + 1]? = some (.int .i32 t.x) := fun s => (Gm.cells_ship { g with dice := d } s kh 1 hk (by omega)).trans (by rw [ht]; rfl)
  have q2 : ∀ s, (Gm.cells { g with dice := d } s)[2 + kh * 7 + 2]? = some (.int .i32 t.y) := fun s => (Gm.cells_ship { g with dice := d } s kh 2 hk (by omega)).trans (by rw [ht]; rfl)
  have q3 : ∀ s, (Gm.cells { g with dice := d } s)[2 + kh * 7 + 3]? = some (.int .i32 t.vx) := fun s => (Gm.cells_ship { g with dice := d } s kh 3 hk (by omega)).trans (by rw [ht]; rfl)
  have q4 : ∀ s, (Gm.cells { g with dice := d } s)[2 + kh * 7 + 4]? = some (.int .i32 t.vy) := fun s => (Gm.cells_ship { g with dice := d } s kh 4 hk (by omega)).trans (by rw [ht]; rfl)
  have q5 : ∀ s, (Gm.cells { g with dice := d } s)[2 + kh * 7 + 5]? = some (.int .i64 t.cool) := fun s => (Gm.cells_ship { g with dice := d } s kh 5 hk (by omega)).trans (by rw [ht]; rfl)
  have q6 : ∀ s, (Gm.cells { g with dice := d } s)[2 + kh * 7 + 6]? = some (.int .i64 t.score) := fun s => (Gm.cells_ship { g with dice := d } s kh 6 hk (by omega)).trans (by rw [ht]; rfl)
  have ho8 : (o : Int) < 8 := by omega
  have HH := Lib.hid h
  generalize hsc : (g.ship kh).score = sc at s6 ⊢
  clear h ht hx hy hdd
  go_enter Try.func113, Try.ntmps113
  go_upto_region 1 with (go_at_call 55; ((with_reducible refine ((cp _ _ HH.out).out).mono ?_); rintro e w1 ⟨rfl, H1, K1⟩; have hB1 := H1.game; have c1 := hB1.cell; have f1 := hB1.free; have H2 := Lib.hid (H1.stored hk ⟨true, x, y, 0, 0, 0, sc⟩); have K2 := Lib.hid (K1.stored (k := kh) ⟨true, x, y, 0, 0, 0, sc⟩); clear H1 K1 hB1 hc))
  have hgen : ∀ W : World, W = stored w1 B kh ⟨true, x, y, 0, 0, 0, sc⟩ → HasAt b B A c { g with dice := d, ship := Gm.upd g.ship kh ⟨true, x, y, 0, 0, 0, sc⟩ } W ∧ Keep b B w W := fun W hW => by subst hW; exact ⟨H2.out, K2.out⟩
  obtain ⟨W2, hW2⟩ : ∃ W2, W2 = stored w1 B kh ⟨true, x, y, 0, 0, 0, sc⟩ := ⟨_, rfl⟩
  have hh2 := hgen W2 hW2
  simp only [stored] at hW2
  rw [← hW2]
  obtain ⟨H3, K3⟩ := hh2
  have hs3 : ∀ i, i < 8 → 0 ≤ (Gm.upd g.ship kh ⟨true, x, y, 0, 0, 0, sc⟩ i).score ∧ (Gm.upd g.ship kh ⟨true, x, y, 0, 0, 0, sc⟩ i).score ≤ 1073741824 := fun i hi => by
    have h1 := hs i hi
    have h2 := hs kh hk
    unfold Gm.upd; split
    · dsimp only; rw [← hsc]; exact h2
    · exact h1
  generalize hF : Gm.upd g.ship kh ⟨true, x, y, 0, 0, 0, sc⟩ = F at H3 hs3
  have FH := Lib.hid hF
  have sco := hs3 o ho
  have r0 := Gm.cells_ship { g with dice := d, ship := F } (.slice A g.shots.length c) o 0 ho (by omega)
  have r6 := Gm.cells_ship { g with dice := d, ship := F } (.slice A g.shots.length c) o 6 ho (by omega)
  simp only [Gm.Ship.cells, List.getElem?_cons_zero, List.getElem?_cons_succ, Nat.add_zero] at r0 r6
  have hsco := Lib.hid (fun u => H3.field (k := o) (t' := { F o with score := u }) (fun s => set_score { g with dice := d, ship := F } s o (F o) ho u))
  have H3H := Lib.hid H3
  have K3H := Lib.hid K3
  have k3 := H3.game.cell
  have f3 := H3.game.free
  have FF : Hid (Gm.more F o = if (F o).on = true then Gm.upd F o { F o with score := min ((F o).score + 1) 1073741824 } else F) := Lib.hid rfl
  clear H2 K2 hgen hW2 hF H3 K3 c1 f1 q0 q1 q2 q3 q4 q5 q6 hs3 cp HH s6 hs
  cases hon : (F o).on
  · rw [hon] at r0
    have HON := Lib.hid hon
    clear hon
    go_wp2
    go_end0
    refine ⟨rfl, ?_, K3H.out⟩
    rw [FH.out, FF.out, if_neg (by rw [HON.out]; simp)]
    exact H3H.out
  · rw [hon] at r0
    have HON := Lib.hid hon
    clear hon
    generalize (F o).score = so at *
    have hwrap : IntKind.i64.wrap (so + 1) = so + 1 := by rw [IntKind.wrap_i64]; omega
    by_cases hlt : so + 1 ≤ 1073741824
    · have MM := Lib.hid (Int.min_eq_left hlt)
      go_wp2
      go_end0
      refine ⟨rfl, ?_, K3H.out.put _ _⟩
      rw [FH.out, FF.out, if_pos HON.out, MM.out]
      exact hsco.out _
    · have MM := Lib.hid (Int.min_eq_right (show (1073741824 : Int) ≤ so + 1 by omega))
      have hlt' : ¬ so + 1 ≤ 1073741824 := hlt
      go_wp2
      go_end0
      refine ⟨rfl, ?_, K3H.out.put _ _⟩
      rw [FH.out, FF.out, if_pos HON.out, MM.out]
      exact hsco.out _
end Go.Proofs.Ytbihnmingedgfaa
