/-
The program's goOn.
-/
import Derived.Test.YtbihnmingedgfaaHr
namespace Go.Proofs.Ytbihnmingedgfaa
open Go.RowKit Go.Shelf
set_option linter.unusedVariables false
attribute [local go_sem] Oper.semAt_some

/-- What is known while a shot flies. -/
structure Fliesy (b B c gs i P1 P2 P3 : Nat) (w0 : World) (G : Gm.G) (s : Gm.Shot) (r : Bool) (W : World) : Prop where
  has : HasAt b B (some ⟨gs, 0, none⟩) c (flyG G i s) W
  p1 : Box W P1 91 #[.pointer (some ⟨B, 0, none⟩)]
  p2 : Box W P2 102 #[.pointer (some ⟨gs, i * 6, none⟩)]
  p3 : Box W P3 4 #[.bool r]
  keep : Keep b B w0 W
section
variable {b B c gs i P1 P2 P3 : Nat} {w0 : World} {G : Gm.G} {s s' : Gm.Shot} {r : Bool} {W W' : World}
theorem Fliesy.call (h : Fliesy b B c gs i P1 P2 P3 w0 G s r W) (hb : Below W.heap.size W W') : Fliesy b B c gs i P1 P2 P3 w0 G s r W' :=
  ⟨h.has.call hb, h.p1.below hb h.p1.lt, h.p2.below hb h.p2.lt, h.p3.below hb h.p3.lt, h.keep.call hb⟩
theorem Fliesy.drew (h : Fliesy b B c gs i P1 P2 P3 w0 G s r W) : Fliesy b B c gs i P1 P2 P3 w0 G s r W.drew := ⟨h.has.drew, h.p1.drew, h.p2.drew, h.p3.drew, h.keep.drew⟩
theorem Fliesy.alloc (h : Fliesy b B c gs i P1 P2 P3 w0 G s r W) (o : Obj) : Fliesy b B c gs i P1 P2 P3 w0 G s r (W.alloc o) := h.call (one_below W o)
theorem Fliesy.put (h : Fliesy b B c gs i P1 P2 P3 w0 G s r W) (hi : i < G.shots.length) {j : Nat} (hj : j < 6) {u : Value} (he : s.cells.set j u = s'.cells) : Fliesy b B c gs i P1 P2 P3 w0 G s' r (W.setCell ⟨gs, i * 6 + j, none⟩ u) := by
  obtain ⟨cs, hr, hbg⟩ := h.has.row
  exact ⟨h.has.shotPut hi hj he, h.p1.far (fun e => Box.apart h.p1 hr (by decide) e) u, h.p2.far (fun e => Box.apart h.p2 hr (by decide) e) u, h.p3.far (fun e => Box.apart h.p3 hr (by decide) e) u, h.keep.shot hr hbg⟩
theorem Fliesy.flag (h : Fliesy b B c gs i P1 P2 P3 w0 G s r W) (h3 : w0.heap.size ≤ P3) (r' : Bool) : Fliesy b B c gs i P1 P2 P3 w0 G s r' (W.setCell ⟨P3, 0, none⟩ (.bool r')) :=
  ⟨h.has.off (p := ⟨P3, 0, none⟩) (Box.apart h.p3 h.has.game (by decide)) h.p3 (by decide) _, h.p1.far (fun e => Box.apart h.p1 h.p3 (by decide) e) _, h.p2.far (fun e => Box.apart h.p2 h.p3 (by decide) e) _, h.p3.put 0 _, h.keep.fresh h3 _⟩
theorem HasAt.turned {A : Option Addr} {g : Gm.G} {row : Option Nat} (h : HasAt b B A c g W) (hg : W.grownBy W' row) (hr : ∀ r, row = some r → ∃ o : Obj, W.heap[r]? = some o ∧ o.isCells = false) : HasAt b B A c g W' := by
  obtain ⟨h, hl, h' | ⟨gg, cap, cur, hv, hbg, hgg, hx⟩⟩ := h
  · exact ⟨h.turned hg hr, hl, .inl h'⟩
  · exact ⟨h.turned hg hr, hl, .inr ⟨gg, cap, cur, hv, hbg, (Box.turned ⟨hgg⟩ hg hr).is, hx⟩⟩
theorem Keep.turned {row : Option Nat} (h : Keep b B w0 W) (hg : W.grownBy W' row) (hr : ∀ r, row = some r → w0.heap.size ≤ r) : Keep b B w0 W' :=
  ⟨hg.os.trans h.os, hg.tape.trans h.tape, hg.output.trans h.output, Nat.le_trans h.size hg.size, h.low, fun k hk hc => (hg.block k (Nat.lt_of_lt_of_le hk h.size) (fun e => by have := hr k e.symm; omega)).trans (h.block k hk hc)⟩
theorem Fliesy.turned {row : Option Nat} (h : Fliesy b B c gs i P1 P2 P3 w0 G s r W) (hg : W.grownBy W' row) (hr : ∀ r, row = some r → w0.heap.size ≤ r ∧ ∃ o : Obj, W.heap[r]? = some o ∧ o.isCells = false) : Fliesy b B c gs i P1 P2 P3 w0 G s r W' :=
  ⟨h.has.turned hg fun r e => (hr r e).2, h.p1.turned hg fun r e => (hr r e).2, h.p2.turned hg fun r e => (hr r e).2, h.p3.turned hg fun r e => (hr r e).2, h.keep.turned hg fun r e => (hr r e).1⟩
end

set_option maxRecDepth 100000 in
set_option maxHeartbeats 4000000 in
theorem goon_walk (G : Gm.G) (b B c gs i o : Nat) (x y vx vy left X Y : Int) (w : World) (hbB : b ≤ B) (hi : i < G.shots.length) (h : HasAt b B (some ⟨gs, 0, none⟩) c G w) (hs : G.shots[i] = ⟨o, x, y, vx, vy, left⟩) (ho : o < 8)
    (ok : Gm.okShot ⟨o, x, y, vx, vy, left⟩) (hsh : ∀ j, j < 8 → Gm.okShip (G.ship j)) (hd : 0 ≤ G.dice ∧ G.dice ≤ 18446744073709551615) (hX : Gf.move x vx = X) (hY : Gf.move y vy = Y) (dx dy dd : Int)
    (hdx : Dn.share (Dn.next G.dice) 16777216 = dx) (hdy : Dn.share (Dn.next (Dn.next G.dice)) 16777216 = dy) (hdd : Dn.next (Dn.next G.dice) = dd) :
    Calls Try.prog 64 #[.pointer (some ⟨B, 0, none⟩), .pointer (some ⟨gs, i * 6, none⟩)] w fun e w' =>
      (left - 1 = 0 ∧ e = .returned (.bool false) ∧ HasAt b B (some ⟨gs, 0, none⟩) c (flyG G i ⟨o, X, Y, vx, vy, left - 1⟩) w' ∧ Keep b B w w') ∨
      (left - 1 ≠ 0 ∧ Gm.hit G.ship ⟨o, X, Y, vx, vy, left - 1⟩ = -1 ∧ e = .returned (.bool true) ∧ HasAt b B (some ⟨gs, 0, none⟩) c (flyG G i ⟨o, X, Y, vx, vy, left - 1⟩) w' ∧ Keep b B w w') ∨
      (∃ kh, left - 1 ≠ 0 ∧ Gm.hit G.ship ⟨o, X, Y, vx, vy, left - 1⟩ = (kh : Nat) ∧ e = .returned (.bool false) ∧
        HasAt b B (some ⟨gs, 0, none⟩) c { flyG G i ⟨o, X, Y, vx, vy, left - 1⟩ with dice := dd, ship := Gm.more (Gm.upd G.ship kh ⟨true, dx, dy, 0, 0, 0, (G.ship kh).score⟩) o } w' ∧ Keep b B w w') := by
  have C0 : Fliesy b B c gs i w.heap.size (w.heap.size + 1) (w.heap.size + 1 + 1) w G ⟨o, x, y, vx, vy, left⟩ false (((w.alloc (.cells #[.pointer (some ⟨B, 0, none⟩)] 91)).alloc (.cells #[.pointer (some ⟨gs, i * 6, none⟩)] 102)).alloc (.cells #[.bool false] 4)) := by
    refine ⟨?_, ((Box.made w _ _).alloc _).alloc _, (Box.made_at _ _ _ (by simp)).alloc _, Box.made_at _ _ _ (by simp), ((((Keep.refl hbB w).alloc _).alloc _).alloc _)⟩
    have h' := ((h.alloc (.cells #[.pointer (some ⟨B, 0, none⟩)] 91)).alloc (.cells #[.pointer (some ⟨gs, i * 6, none⟩)] 102)).alloc (.cells #[.bool false] 4)
    rw [← hs, flyG_self G i hi]
    exact h'
  have HC := Lib.hid C0
  have OK := Lib.hid ok
  have HS := Lib.hid hs
  have HSH := Lib.hid hsh
  obtain ⟨o1, o2, o3, o4, o5, o6, o7, o8⟩ := ok
  simp only [Gm.inF, Gm.slow] at o1 o2 o3 o4 o5 o6 o7 o8
  have m1 := Gf.move_bd x vx
  have m2 := Gf.move_bd y vy
  have k1 := fun W => Lib.hid (fldmove_any x vx (by omega) (by omega) W)
  have k2 := fun W => Lib.hid (fldmove_any y vy (by omega) (by omega) W)
  rw [hX] at m1 k1
  rw [hY] at m2 k2
  have hsub : IntKind.i64.wrap (left - 1) = left - 1 := by rw [IntKind.wrap_i64]; omega
  clear C0 h hs hsh hX hY
  refine (callsIn_wide (n := 10)).1 (callsIn_of_wp_marks Try.func64 rfl trivial (wpIn_wide.2 ?_) rfl)
  simp only [Try.ntmps64, List.size_toArray, List.length_cons, List.length_nil, Nat.reduceAdd, Nat.reduceSub, Array.replicate_succ, Array.replicate_zero, List.push_toArray, List.append_toArray, List.nil_append, List.cons_append]
  go_upto_region 1 with fail
  refine Rp.wp_region_lex (by kernel_rfl) [0, 1, 2, 6, 11, 15, 3, 7, 12, 16, 20, 23] (by kernel_rfl) (Fliesy b B c gs i w.heap.size (w.heap.size + 1) (w.heap.size + 1 + 1) w G ⟨o, x, y, vx, vy, left⟩ false) (Fliesy b B c gs i w.heap.size (w.heap.size + 1) (w.heap.size + 1 + 1) w G ⟨o, x, y, vx, vy, left⟩ false) (fun W => Box W (w.heap.size + 1) 102 #[.pointer (some ⟨gs, i * 6, none⟩)]) HC.out.drew (fun W hW => ⟨hW, hW.p2⟩) ?_
  repeat (first
    | (apply Rp.lex_free rfl rfl; focus (intro _; go_simp; first | done | rfl))
    | (apply Rp.lex_steady rfl rfl rfl rfl; focus (intro W hW; have y2 := Box.cell hW; clear hW; go_simp; first | done | rfl))
    | (apply Rp.lex_look rfl rfl rfl rfl; focus (intro W hW; have z0 := hW.has.shot hi 0 (by omega); have z1 := hW.has.shot hi 1 (by omega); have z2 := hW.has.shot hi 2 (by omega); have z3 := hW.has.shot hi 3 (by omega); have z4 := hW.has.shot hi 4 (by omega); have z5 := hW.has.shot hi 5 (by omega); simp only [Gm.Shot.cells, List.getElem?_cons_zero, List.getElem?_cons_succ, Nat.add_zero] at z0 z1 z2 z3 z4 z5; clear hW; go_simp; first | done | rfl))
    | (apply Rp.lex_call (C' := Fliesy b B c gs i w.heap.size (w.heap.size + 1) (w.heap.size + 1 + 1) w G ⟨o, x, y, vx, vy, left⟩ false) rfl; (focus (intro W hW; clear hW; go_simp; first | done | rfl | exact ⟨rfl, rfl⟩)); (focus (intro W hW; first | ((with_reducible refine (k1 W).out.mono ?_); exact fun e w' h => ⟨h.1, hW.call h.2⟩) | ((with_reducible refine (k2 W).out.mono ?_); exact fun e w' h => ⟨h.1, hW.call h.2⟩))); (focus (exact fun W hW => ⟨hW, hW.p2⟩))))
  refine Rp.lex_store rfl rfl (C' := Fliesy b B c gs i w.heap.size (w.heap.size + 1) (w.heap.size + 1 + 1) w G ⟨o, X, y, vx, vy, left⟩ false) (D' := Fliesy b B c gs i w.heap.size (w.heap.size + 1) (w.heap.size + 1 + 1) w G ⟨o, X, y, vx, vy, left⟩ false) (fun W hW => ⟨_, ?_, hW.put hi (j := 1) (by omega) rfl⟩) (fun W hW => ⟨hW, hW.p2⟩) ?_
  focus
    have y2 := hW.p2.cell
    have f0 := hW.has.shotFree
    have z1 := hW.has.shot hi 1 (by omega)
    simp only [Gm.Shot.cells, List.getElem?_cons_zero, List.getElem?_cons_succ] at z1
    clear hW
    go_simp
    first | done | rfl
  repeat (first
    | (apply Rp.lex_free rfl rfl; focus (intro _; go_simp; first | done | rfl))
    | (apply Rp.lex_steady rfl rfl rfl rfl; focus (intro W hW; have y2 := Box.cell hW; clear hW; go_simp; first | done | rfl))
    | (apply Rp.lex_look rfl rfl rfl rfl; focus (intro W hW; have z0 := hW.has.shot hi 0 (by omega); have z1 := hW.has.shot hi 1 (by omega); have z2 := hW.has.shot hi 2 (by omega); have z3 := hW.has.shot hi 3 (by omega); have z4 := hW.has.shot hi 4 (by omega); have z5 := hW.has.shot hi 5 (by omega); simp only [Gm.Shot.cells, List.getElem?_cons_zero, List.getElem?_cons_succ, Nat.add_zero] at z0 z1 z2 z3 z4 z5; clear hW; go_simp; first | done | rfl))
    | (apply Rp.lex_call (C' := Fliesy b B c gs i w.heap.size (w.heap.size + 1) (w.heap.size + 1 + 1) w G ⟨o, X, y, vx, vy, left⟩ false) rfl; (focus (intro W hW; clear hW; go_simp; first | done | rfl | exact ⟨rfl, rfl⟩)); (focus (intro W hW; first | ((with_reducible refine (k1 W).out.mono ?_); exact fun e w' h => ⟨h.1, hW.call h.2⟩) | ((with_reducible refine (k2 W).out.mono ?_); exact fun e w' h => ⟨h.1, hW.call h.2⟩))); (focus (exact fun W hW => ⟨hW, hW.p2⟩))))
  refine Rp.lex_store rfl rfl (C' := Fliesy b B c gs i w.heap.size (w.heap.size + 1) (w.heap.size + 1 + 1) w G ⟨o, X, Y, vx, vy, left⟩ false) (D' := Fliesy b B c gs i w.heap.size (w.heap.size + 1) (w.heap.size + 1 + 1) w G ⟨o, X, Y, vx, vy, left⟩ false) (fun W hW => ⟨_, ?_, hW.put hi (j := 2) (by omega) rfl⟩) (fun W hW => ⟨hW, hW.p2⟩) ?_
  focus
    have y2 := hW.p2.cell
    have f0 := hW.has.shotFree
    have z2 := hW.has.shot hi 2 (by omega)
    simp only [Gm.Shot.cells, List.getElem?_cons_zero, List.getElem?_cons_succ] at z2
    clear hW
    go_simp
    first | done | rfl
  refine Rp.lex_end fun W1 HW => ?_
  have HC1 := Lib.hid HW
  have y2 := HW.p2.cell
  have f0 := HW.has.shotFree
  have z5 := HW.has.shot hi 5 (by omega)
  simp only [Gm.Shot.cells, List.getElem?_cons_zero, List.getElem?_cons_succ] at z5
  clear HW HC
  go_upto_region 3 with fail
  obtain ⟨W2, hW2⟩ : ∃ W2, W2 = W1.setCell ⟨gs, i * 6 + 5, none⟩ (.int .i64 (left - 1)) := ⟨_, rfl⟩
  have HF : Fliesy b B c gs i w.heap.size (w.heap.size + 1) (w.heap.size + 1 + 1) w G ⟨o, X, Y, vx, vy, left - 1⟩ false W2 := by rw [hW2]; exact HC1.out.put hi (j := 5) (by omega) rfl
  rw [← hW2]
  have HC2 := Lib.hid HF
  clear hW2 HC1 z5 f0 y2
  have y2 := HF.p2.cell
  have y1 := HF.p1.cell
  have y3 := HF.p3.cell
  have g3 := HF.p3.free
  have z5 := HF.has.shot hi 5 (by omega)
  simp only [Gm.Shot.cells, List.getElem?_cons_zero, List.getElem?_cons_succ] at z5
  clear HF
  by_cases hl0 : left - 1 = 0
  · have hb : (left - 1 == 0) = true := by simpa using hl0
    have HF3 := Lib.hid (HC2.out.flag (by omega) false)
    have hc3 : (W2.setCell ⟨w.heap.size + 1 + 1, 0, none⟩ (.bool false)).cell? ⟨w.heap.size + 1 + 1, 0, none⟩ = some (.bool false) := HF3.out.p3.cell 0
    have HL0 := Lib.hid hl0
    clear hl0
    go_wp2
    refine ⟨.bool false, ?_, .inl ⟨HL0.out, rfl, HF3.out.has, HF3.out.keep⟩⟩
    simp [results, Try.f64, go_sem, hc3]
  · have hb : (left - 1 == 0) = false := by simp; omega
    have HL0 := Lib.hid hl0
    clear hl0
    go_upto_block 0 with (go_at_call 58; ((with_reducible refine (flying_any _ _).mono ?_); rintro e w3 ⟨rfl, rfl⟩))
    have F0 : Fliesy b B c gs i w.heap.size (w.heap.size + 1) (w.heap.size + 1 + 1) w G ⟨o, X, Y, vx, vy, left - 1⟩ false (W2.alloc (.cells #[.pointer (some ⟨B, 0, none⟩)] 91)) := HC2.out.alloc _
    have PB : Box (W2.alloc (.cells #[.pointer (some ⟨B, 0, none⟩)] 91)) W2.heap.size 91 #[.pointer (some ⟨B, 0, none⟩)] := Box.made _ _ _
    generalize W2.alloc (.cells #[.pointer (some ⟨B, 0, none⟩)] 91) = W3 at F0 PB ⊢
    generalize W2.heap.size = Bg at PB ⊢
    have hfl0 : Flying B Bg (fun j => (G.ship j).on) W3 := ⟨PB.cell 0, fun k hk => F0.has.has.flags k hk⟩
    have FF0 := Lib.hid F0
    have PB0 := Lib.hid PB
    clear F0 PB y1 y2 y3 g3 z5 HC2
    refine (wpIn_wide (n := 10)).1 ?_
    refine wpIn_block ?_
    refine wpIn_rangeFunc_ownF (n := 10) (w := W3) rfl (by omega) (gf := 110) (lb := #[.pointer (some ⟨Bg, 0, none⟩)]) rfl trivial (enters_of Try.func110 (by kernel_rfl) rfl)
      (flying1_stops (fun j => (G.ship j).on) B Bg _ W3 hfl0) flykp_t (flykp_b (n := W3.heap.size)) (Below.refl _ _) (fun _ => rfl)
      (fun pre V => Fliesy b B c gs i w.heap.size (w.heap.size + 1) (w.heap.size + 1 + 1) w G ⟨o, X, Y, vx, vy, left - 1⟩ false V ∧ ∀ y ∈ pre, Gm.hits1 G.ship ⟨o, X, Y, vx, vy, left - 1⟩ y.1 = false)
      (fun c' pre V => c' = .ret ∧ ∃ (pre' : List (Slot fun j => (G.ship j).on)) (x : Slot fun j => (G.ship j).on), pre = pre' ++ [x] ∧ (∀ y ∈ pre', Gm.hits1 G.ship ⟨o, X, Y, vx, vy, left - 1⟩ y.1 = false) ∧ Gm.hits1 G.ship ⟨o, X, Y, vx, vy, left - 1⟩ x.1 = true ∧
        HasAt b B (some ⟨gs, 0, none⟩) c { flyG G i ⟨o, X, Y, vx, vy, left - 1⟩ with dice := dd, ship := Gm.more (Gm.upd G.ship x.1 ⟨true, dx, dy, 0, 0, 0, (G.ship x.1).score⟩) o } V ∧ Box V (w.heap.size + 1 + 1) 4 #[.bool false] ∧ Keep b B w V)
      (fun pre V V' row h hgr hr => ⟨h.1.turned hgr (fun r e => ⟨Nat.le_trans FF0.out.keep.size (hr r e).1, (hr r e).2⟩), h.2⟩)
      (fun c' pre V V' row h hgr hr => by
        obtain ⟨h0, pre', x, h1, h2, h3, h4, h5, h6⟩ := h
        exact ⟨h0, pre', x, h1, h2, h3, h4.turned hgr fun r e => (hr r e).2, h5.turned hgr fun r e => (hr r e).2, h6.turned hgr fun r e => Nat.le_trans FF0.out.keep.size (hr r e).1⟩)
      ⟨FF0.out, by simp⟩
      (fun z => { tmps := #[.pointer (some ⟨B, 0, none⟩), .pointer (some ⟨gs, i * 6, none⟩), .pointer (some ⟨w.heap.size, 0, none⟩), .pointer (some ⟨w.heap.size + 1, 0, none⟩), .pointer (some ⟨w.heap.size + 1 + 1, 0, none⟩), .int .i64 z.1, .pointer (some ⟨B, 2 + z.1 * 7, none⟩), .pointer (some ⟨gs, i * 6, none⟩), .pointer (some ⟨gs, i * 6, none⟩), .pointer (some ⟨gs, i * 6, none⟩), .pointer (some ⟨gs, i * 6, none⟩), .pointer (some ⟨gs, i * 6 + 1, none⟩), .int .i32 x, .pointer (some ⟨gs, i * 6, none⟩), .pointer (some ⟨gs, i * 6, none⟩), .pointer (some ⟨gs, i * 6 + 3, none⟩), .int .i32 vx, .int .i32 X, .pointer (some ⟨gs, i * 6, none⟩), .pointer (some ⟨gs, i * 6, none⟩), .pointer (some ⟨gs, i * 6 + 2, none⟩), .int .i32 y, .pointer (some ⟨gs, i * 6, none⟩), .pointer (some ⟨gs, i * 6, none⟩), .pointer (some ⟨gs, i * 6 + 4, none⟩), .int .i32 vy, .int .i32 Y, .pointer (some ⟨gs, i * 6, none⟩), .pointer (some ⟨gs, i * 6 + 1, none⟩), .pointer (some ⟨gs, i * 6, none⟩), .pointer (some ⟨gs, i * 6 + 2, none⟩), .pointer (some ⟨gs, i * 6, none⟩), .pointer (some ⟨gs, i * 6, none⟩), .pointer (some ⟨gs, i * 6 + 5, none⟩), .int .i64 left, .int .i64 (left - 1), .pointer (some ⟨gs, i * 6, none⟩), .pointer (some ⟨gs, i * 6 + 5, none⟩), .pointer (some ⟨gs, i * 6, none⟩), .pointer (some ⟨gs, i * 6, none⟩), .pointer (some ⟨gs, i * 6 + 5, none⟩), .int .i64 (left - 1), .bool false, .pointer (some ⟨B, 0, none⟩), .func (.func 110) #[] #[.pointer (some ⟨Bg, 0, none⟩)], .int .i64 z.1, .pointer (some ⟨B, 2 + z.1 * 7, none⟩), undef, undef, undef, undef, undef, undef, undef, undef, undef, undef, undef, undef, undef, undef, undef, undef, undef, undef, undef, undef, undef, undef, undef, undef, undef, undef, undef, undef, undef, undef, undef, undef], defers := [] }) ?assign ?body ?done ?stop
    case assign =>
      intro l z V K hK
      gi_wp2
      exact hK
    case body =>
      rintro l pre ⟨k, hk, hon⟩ V ⟨hF, hpre⟩ hlen
      dsimp only
      refine wpIn_block ?_
      refine wpIn_seq_k ?_
      intro K hK
      have hk8 : (k : Int) < 8 := by omega
      have hoks := HSH.out k hk
      have y1 : ∀ q : Ext V.heap.size V, q.w.cell? ⟨w.heap.size, 0, none⟩ = some (.pointer (some ⟨B, 0, none⟩)) := fun q => q.cell hF.p1.lt (hF.p1.cell 0)
      have y2 : ∀ q : Ext V.heap.size V, q.w.cell? ⟨w.heap.size + 1, 0, none⟩ = some (.pointer (some ⟨gs, i * 6, none⟩)) := fun q => q.cell hF.p2.lt (hF.p2.cell 0)
      have gsl : gs < V.heap.size := by obtain ⟨cs, hr, _⟩ := hF.has.row; exact hr.lt
      have z0 := hF.has.shot hi 0 (by omega)
      have z1 := hF.has.shot hi 1 (by omega)
      have z2 := hF.has.shot hi 2 (by omega)
      simp only [Gm.Shot.cells, List.getElem?_cons_zero, List.getElem?_cons_succ, Nat.add_zero] at z0 z1 z2
      have z0 : ∀ q : Ext V.heap.size V, q.w.cell? ⟨gs, i * 6, none⟩ = some (.int .i64 o) := fun q => q.cell gsl z0
      have z1 : ∀ q : Ext V.heap.size V, q.w.cell? ⟨gs, i * 6 + 1, none⟩ = some (.int .i32 X) := fun q => q.cell gsl z1
      have z2 : ∀ q : Ext V.heap.size V, q.w.cell? ⟨gs, i * 6 + 2, none⟩ = some (.int .i32 Y) := fun q => q.cell gsl z2
      have sx := (hF.has.game.cell (2 + k * 7 + 1)).trans (Gm.cells_ship _ _ k 1 hk (by omega))
      have sy := (hF.has.game.cell (2 + k * 7 + 2)).trans (Gm.cells_ship _ _ k 2 hk (by omega))
      simp only [Gm.Ship.cells, List.getElem?_cons_zero, List.getElem?_cons_succ] at sx sy
      have sx : ∀ q : Ext V.heap.size V, q.w.cell? ⟨B, 2 + k * 7 + 1, none⟩ = some (.int .i32 (G.ship k).x) := fun q => q.cell hF.has.game.lt sx
      have sy : ∀ q : Ext V.heap.size V, q.w.cell? ⟨B, 2 + k * 7 + 2, none⟩ = some (.int .i32 (G.ship k).y) := fun q => q.cell hF.has.game.lt sy
      have hh1 : Gm.hits1 G.ship ⟨o, X, Y, vx, vy, left - 1⟩ k = (decide ((k : Int) ≠ o) && Gf.hits X Y (G.ship k).x (G.ship k).y) := by
        have hon' : (G.ship k).on = true := hon
        unfold Gm.hits1; rw [hon']; rfl
      obtain ⟨_, ⟨hx1, hx2⟩, ⟨hy1, hy2⟩, _⟩ := hoks
      have chits := fun Z => Lib.hid (fldhits_any X Y (G.ship k).x (G.ship k).y (by omega) (by omega) (by omega) (by omega) Z)
      generalize (G.ship k).x = SX at sx hh1 hx1 hx2 chits
      generalize (G.ship k).y = SY at sy hh1 hy1 hy2 chits
      have HF := Lib.hid hF
      have HP := Lib.hid hpre
      have HH1 := Lib.hid hh1
      clear hF hpre hh1
      by_cases hko : k = o
      · subst hko
        refine Rt.region_ext V.heap.size V (by kernel_rfl) (by kernel_rfl) (by kernel_rfl) (by rintro ⟨_, _, h⟩; exact h) (Below.refl _ _) ?_
        repeat (go_big_quiet_step ((go_at_call 112; with_reducible exact Calls.ext_of (Nat.le_refl _) (chits _).out)))
        refine wpQuiet_nil ?_
        intro _ hw'
        obtain ⟨q, hw''⟩ := hw'
        subst hw''
        refine hK _ _ ?_
        have hnew : ∀ y ∈ pre ++ [(⟨k, hk, hon⟩ : Slot fun j => (G.ship j).on)], Gm.hits1 G.ship ⟨k, X, Y, vx, vy, left - 1⟩ y.1 = false := fun y hy => by
          rcases List.mem_append.1 hy with h | h
          · exact HP.out y h
          · simp only [List.mem_singleton] at h
            subst h
            show Gm.hits1 G.ship ⟨k, X, Y, vx, vy, left - 1⟩ k = false
            rw [HH1.out]; simp
        have HN := Lib.hid hnew
        clear hnew
        gi_wp2
        refine ⟨below_others q.h, fun hf => hf.below q.h, HF.out.call q.h, ?_⟩
        first
          | exact HN.out
          | exact fun a hb hm => HN.out ⟨a, hb⟩ hm
      · have hne : ((k : Int) == (o : Int)) = false := by simp; omega
        have hne2 : ((k : Int) != (o : Int)) = true := by simp; omega
        have hne3 : ¬ (k : Int) = (o : Int) := by omega
        have hne4 : (k == o) = false := by simp; omega
        have hne5 : (k != o) = true := by simp; omega
        have hdo : decide ((k : Int) ≠ o) = true := by simp; omega
        rw [hdo, Bool.true_and] at HH1
        cases hhit : Gf.hits X Y SX SY
        · rw [hhit] at chits HH1
          refine Rt.region_ext V.heap.size V (by kernel_rfl) (by kernel_rfl) (by kernel_rfl) (by rintro ⟨_, _, h⟩; exact h) (Below.refl _ _) ?_
          repeat (go_big_quiet_step ((go_at_call 112; with_reducible exact Calls.ext_of (Nat.le_refl _) (chits _).out)))
          refine wpQuiet_nil ?_
          intro _ hw'
          obtain ⟨q, hw''⟩ := hw'
          subst hw''
          refine hK _ _ ?_
          have hnew : ∀ y ∈ pre ++ [(⟨k, hk, hon⟩ : Slot fun j => (G.ship j).on)], Gm.hits1 G.ship ⟨o, X, Y, vx, vy, left - 1⟩ y.1 = false := fun y hy => by
            rcases List.mem_append.1 hy with h | h
            · exact HP.out y h
            · simp only [List.mem_singleton] at h
              subst h
              show Gm.hits1 G.ship ⟨o, X, Y, vx, vy, left - 1⟩ k = false
              exact HH1.out
          have HN := Lib.hid hnew
          clear hnew
          gi_wp2
          refine ⟨below_others q.h, fun hf => hf.below q.h, HF.out.call q.h, ?_⟩
          first
            | exact HN.out
            | exact fun a hb hm => HN.out ⟨a, hb⟩ hm
        · rw [hhit] at chits HH1
          refine Rt.region_ext V.heap.size V (by kernel_rfl) (by kernel_rfl) (by kernel_rfl) (by rintro ⟨_, _, h⟩; exact h) (Below.refl _ _) ?_
          repeat (go_big_quiet_step ((go_at_call 112; with_reducible exact Calls.ext_of (Nat.le_refl _) (chits _).out)))
          refine wpQuiet_nil ?_
          intro _ hw'
          obtain ⟨q, hw''⟩ := hw'
          subst hw''
          refine hK _ _ ?_
          refine wpIn_cond_true rfl ?_
          refine wpIn_seq_k ?_
          intro K2 hK2
          have hfq := HF.out.call q.h
          have hs8 : ∀ i, i < 8 → 0 ≤ (G.ship i).score ∧ (G.ship i).score ≤ 1073741824 := fun i hi => ⟨(HSH.out i hi).2.2.2.2.2.2.2.1, (HSH.out i hi).2.2.2.2.2.2.2.2⟩
          have chh := fun Z (hZ : HasAt b B (some ⟨gs, 0, none⟩) c (flyG G i ⟨o, X, Y, vx, vy, left - 1⟩) Z) => Lib.hid (hit_walk (flyG G i ⟨o, X, Y, vx, vy, left - 1⟩) b B (some ⟨gs, 0, none⟩) c k o dx dy dd Z hbB hk ho hZ hd hs8 hdx hdy hdd)
          have hoi : gs ≠ B := hfq.has.apart
          refine Rt.region_lex (by kernel_rfl) (by kernel_rfl) [] (by kernel_rfl) (by rintro ⟨_, _, h⟩; exact h)
            (fun Z => Fliesy b B c gs i w.heap.size (w.heap.size + 1) (w.heap.size + 1 + 1) w G ⟨o, X, Y, vx, vy, left - 1⟩ false Z ∧ KeepsOthers V Z)
            (fun Z => Box Z w.heap.size 91 #[.pointer (some ⟨B, 0, none⟩)] ∧ Box Z (w.heap.size + 1) 102 #[.pointer (some ⟨gs, i * 6, none⟩)] ∧ Z.cell? ⟨gs, i * 6, none⟩ = some (.int .i64 o))
            (fun _ => True) ⟨hfq.drew, (below_others q.h).trans (KeepsOthers.drew _)⟩ (fun Z hZ => ⟨⟨hZ.1.p1, hZ.1.p2, hZ.1.has.shot hi 0 (by omega)⟩, trivial⟩) ?_
          repeat (first
            | (apply Rp.lex_free rfl rfl; focus (intro _; go_simp; first | done | rfl))
            | (apply Rp.lex_look rfl rfl rfl rfl; focus (intro Z hZ; obtain ⟨hZ1, hZ2, hZ3⟩ := hZ; have u1 := Box.cell hZ1; have u2 := Box.cell hZ2; clear hZ1 hZ2; go_simp; first | done | rfl)))
          refine Rp.lex_call (C' := fun Z => (HasAt b B (some ⟨gs, 0, none⟩) c { flyG G i ⟨o, X, Y, vx, vy, left - 1⟩ with dice := dd, ship := Gm.more (Gm.upd G.ship k ⟨true, dx, dy, 0, 0, 0, (G.ship k).score⟩) o } Z ∧ Box Z w.heap.size 91 #[.pointer (some ⟨B, 0, none⟩)] ∧ Box Z (w.heap.size + 1) 102 #[.pointer (some ⟨gs, i * 6, none⟩)] ∧ Box Z (w.heap.size + 1 + 1) 4 #[.bool false] ∧ Keep b B w Z) ∧ KeepsOthers V Z) (v := .tuple #[]) (f := 113) (args := #[.pointer (some ⟨B, 0, none⟩), .pointer (some ⟨B, 2 + k * 7, none⟩), .int .i64 o]) rfl ?_ ?_ ?_ ?_
          · intro Z hZ; clear hZ; go_simp; first | done | rfl | exact ⟨rfl, rfl⟩
          · intro Z hZ
            refine (chh Z hZ.1.has).out.mono ?_
            rintro e Z2 ⟨rfl, hH2, hK2⟩
            exact ⟨rfl, ⟨hH2, hZ.1.p1.keep hK2 (Box.apart hZ.1.p1 hZ.1.has.game (by decide)) (by decide), hZ.1.p2.keep hK2 (Box.apart hZ.1.p2 hZ.1.has.game (by decide)) (by decide), hZ.1.p3.keep hK2 (Box.apart hZ.1.p3 hZ.1.has.game (by decide)) (by decide), hZ.1.keep.trans hK2⟩, hZ.2.trans (hK2.others hZ.1.has.game)⟩
          · intro Z hZ
            exact ⟨⟨hZ.1.2.1, hZ.1.2.2.1, HasAt.shot (G := { G with dice := dd, ship := Gm.more (Gm.upd G.ship k ⟨true, dx, dy, 0, 0, 0, (G.ship k).score⟩) o }) hZ.1.1 hi 0 (by omega)⟩, trivial⟩
          refine Rp.lex_end fun Z hZ => ?_
          obtain ⟨⟨hZ1, hZ2, hZ3, hZ4, hZ5⟩, hZ6⟩ := hZ
          refine hK2 _ _ ?_
          have Q1 := Lib.hid (hZ1.off (p := ⟨w.heap.size + 1 + 1, 0, none⟩) (Box.apart hZ4 hZ1.game (by decide)) hZ4 (by decide) (.bool false))
          have Q4 := Lib.hid (hZ4.put 0 (.bool false))
          have Q5 := Lib.hid (hZ5.fresh (p := ⟨w.heap.size + 1 + 1, 0, none⟩) (by show w.heap.size ≤ w.heap.size + 1 + 1; omega) (.bool false))
          have Q6 := Lib.hid (hZ6.trans (KeepsOthers.setCell Z ⟨w.heap.size + 1 + 1, 0, none⟩ (.bool false)))
          have u4 := hZ4.cell
          have v4 := hZ4.free
          clear hZ1 hZ2 hZ3 hZ4 hZ5 hZ6 hfq
          have hhk := Lib.hid HH1.out
          gi_wp2
          first
            | exact ⟨Q6.out, rfl, pre, ⟨k, hk, hon⟩, rfl, HP.out, hhk.out, Q1.out, Q4.out, Q5.out⟩
            | exact ⟨Q6.out, rfl, pre, k, ⟨⟨hk, hon⟩, rfl⟩, fun a hb hm => HP.out ⟨a, hb⟩ hm, hhk.out, Q1.out, Q4.out, Q5.out⟩
    case done =>
      rintro D xs V hD rfl ⟨hF, hn⟩ hK
      have hnone := Lib.hid (hit_none (f := G.ship) (s := ⟨o, X, Y, vx, vy, left - 1⟩) 8 0 rfl hn)
      have hF3 := hF.flag (by omega) true
      have hK3 := others_kept (KeepsOthers.setCell V ⟨w.heap.size + 1 + 1, 0, none⟩ (.bool true)) hK
      have hDw : w.heap.size ≤ D := Nat.le_trans FF0.out.keep.size hD
      have HT := Lib.hid (hF3.turned (grownBy_putObj' _ D (.deferred none)) (fun r e => by cases e; exact ⟨hDw, _, hK3, rfl⟩))
      have HK3 := Lib.hid hK3
      have hc5 : ((V.setCell ⟨w.heap.size + 1 + 1, 0, none⟩ (.bool true)).putObj D (.deferred none)).cell? ⟨w.heap.size + 1 + 1, 0, none⟩ = some (.bool true) := HT.out.p3.cell 0
      have u4 := hF.p3.cell
      have v4 := hF.p3.free
      clear hn hF hF3 hK3 hK
      go_wp2
      refine ⟨by simp, .inl ⟨_, _, rfl, run_takeDeferred HK3.out, ?_⟩⟩
      refine ⟨.bool true, ?_, .inr (.inl ⟨HL0.out, hnone.out, rfl, HT.out.has, HT.out.keep⟩)⟩
      simp [results, Try.f64, go_sem, hc5]
    case stop =>
      rintro D c' pre V hD ⟨rest, hpre⟩ ⟨rfl, pre', x, rfl, h2, h3, h4, h5, h6⟩ hK
      have hfirst := Lib.hid (hit_first (f := G.ship) (s := ⟨o, X, Y, vx, vy, left - 1⟩) 8 0 pre' x rest rfl (by rw [hpre]; simp) h2 h3)
      have hDw : w.heap.size ≤ D := Nat.le_trans FF0.out.keep.size hD
      have HT4 := Lib.hid (h4.turned (grownBy_putObj' _ D (.deferred none)) (fun r e => by cases e; exact ⟨_, hK, rfl⟩))
      have HT5 := Lib.hid (h5.turned (grownBy_putObj' _ D (.deferred none)) (fun r e => by cases e; exact ⟨_, hK, rfl⟩))
      have HT6 := Lib.hid (h6.turned (grownBy_putObj' V D (.deferred none)) (fun r e => by cases e; exact hDw))
      have hc5 : (V.putObj D (.deferred none)).cell? ⟨w.heap.size + 1 + 1, 0, none⟩ = some (.bool false) := HT5.out.cell 0
      have HK3 := Lib.hid hK
      clear h2 h3 h4 h5 h6 hK hpre
      refine wpIn_ret ?_
      refine ⟨by simp, .inl ⟨_, _, rfl, run_takeDeferred HK3.out, ?_⟩⟩
      refine ⟨.bool false, ?_, .inr (.inr ⟨x.1, HL0.out, hfirst.out, rfl, HT4.out, HT6.out⟩)⟩
      simp [results, Try.f64, go_sem, hc5]
end Go.Proofs.Ytbihnmingedgfaa
