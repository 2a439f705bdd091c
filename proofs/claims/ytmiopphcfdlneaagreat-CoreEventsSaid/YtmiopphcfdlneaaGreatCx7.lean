/-
Several texts in one: Hs Ht Hu Hp Hoff Ps Fd Rgm Kl Oba.
-/
import Derived.Test.YtmiopphcfdlneaaGreatCx6
set_option maxRecDepth 100000
set_option maxHeartbeats 8000000
set_option linter.unusedVariables false
set_option linter.unusedSimpArgs false
namespace Go.Proofs.YtmiopphcfdlneaaGreat
open Go.RowKit Go.Shelf
attribute [local go_sem] Oper.semAt_some
structure qbu (b B c gs i P1 P2 P3 : Nat) (w0 : World) (G : Gm.G) (s : Gm.Shot) (r : Bool) (W : World) : Prop where
 has : qaW b B (some ⟨gs, 0, none⟩) c (flyG G i s) W
 p1 : Box W P1 175 #[.pointer (some ⟨B, 0, none⟩)]
 p2 : Box W P2 181 #[.pointer (some ⟨gs, i * 6, none⟩)]
 p3 : Box W P3 4 #[.bool r]
 keep : Keep b B w0 W
section
variable {b B c gs i P1 P2 P3 : Nat} {w0 : World} {G : Gm.G} {s s' : Gm.Shot} {r : Bool} {W W' : World}
theorem qbu.call (h : qbu b B c gs i P1 P2 P3 w0 G s r W) (hb : Below W.heap.size W W') : qbu b B c gs i P1 P2 P3 w0 G s r W' :=
 ⟨h.has.call hb, h.p1.below hb h.p1.lt, h.p2.below hb h.p2.lt, h.p3.below hb h.p3.lt, h.keep.call hb⟩
theorem qbu.drew (h : qbu b B c gs i P1 P2 P3 w0 G s r W) : qbu b B c gs i P1 P2 P3 w0 G s r W.drew := ⟨h.has.drew, h.p1.drew, h.p2.drew, h.p3.drew, h.keep.drew⟩
theorem qbu.alloc (h : qbu b B c gs i P1 P2 P3 w0 G s r W) (o : Obj) : qbu b B c gs i P1 P2 P3 w0 G s r (W.alloc o) := h.call (qac W o)
theorem qbu.put (h : qbu b B c gs i P1 P2 P3 w0 G s r W) (hi : i < G.qaa.length) {j : Nat} (hj : j < 6) {u : Value} (he : s.cells.set j u = s'.cells) : qbu b B c gs i P1 P2 P3 w0 G s' r (W.setCell ⟨gs, i * 6 + j, none⟩ u) := by
 obtain ⟨cs, hr, hbg⟩ := h.has.row
 exact ⟨h.has.qqa hi hj he, h.p1.far (fun e => Box.apart h.p1 hr (by decide) e) u, h.p2.far (fun e => Box.apart h.p2 hr (by decide) e) u, h.p3.far (fun e => Box.apart h.p3 hr (by decide) e) u, h.keep.shot hr hbg⟩
theorem qbu.flag (h : qbu b B c gs i P1 P2 P3 w0 G s r W) (h3 : w0.heap.size <= P3) (r' : Bool) : qbu b B c gs i P1 P2 P3 w0 G s r' (W.setCell ⟨P3, 0, none⟩ (.bool r')) :=
 ⟨h.has.off (p := ⟨P3, 0, none⟩) (Box.apart h.p3 h.has.game (by decide)) h.p3 (by decide) _, h.p1.far (fun e => Box.apart h.p1 h.p3 (by decide) e) _, h.p2.far (fun e => Box.apart h.p2 h.p3 (by decide) e) _, h.p3.put 0 _, h.keep.fresh h3 _⟩
theorem qaW.turned {A : Option Addr} {g : Gm.G} {row : Option Nat} (h : qaW b B A c g W) (hg : W.grownBy W' row) (hr : ∀ r, row = some r -> ∃ o : Obj, W.heap[r]? = some o /\ o.isCells = false) : qaW b B A c g W' := by
 obtain ⟨h, hl, h' | ⟨gg, cap, cur, hv, hbg, hgg, hx⟩⟩ := h
 · exact ⟨h.turned hg hr, hl, .inl h'⟩
 · exact ⟨h.turned hg hr, hl, .inr ⟨gg, cap, cur, hv, hbg, (Box.turned ⟨hgg⟩ hg hr).is, hx⟩⟩
theorem Keep.turned {row : Option Nat} (h : Keep b B w0 W) (hg : W.grownBy W' row) (hr : ∀ r, row = some r -> w0.heap.size <= r) : Keep b B w0 W' :=
 ⟨hg.os.trans h.os, hg.tape.trans h.tape, hg.output.trans h.output, Nat.le_trans h.size hg.size, h.low, fun k hk hc => (hg.block k (Nat.lt_of_lt_of_le hk h.size) (fun e => by have := hr k e.symm; omega)).trans (h.block k hk hc)⟩
theorem qbu.turned {row : Option Nat} (h : qbu b B c gs i P1 P2 P3 w0 G s r W) (hg : W.grownBy W' row) (hr : ∀ r, row = some r -> w0.heap.size <= r /\ ∃ o : Obj, W.heap[r]? = some o /\ o.isCells = false) : qbu b B c gs i P1 P2 P3 w0 G s r W' :=
 ⟨h.has.turned hg fun r e => (hr r e).2, h.p1.turned hg fun r e => (hr r e).2, h.p2.turned hg fun r e => (hr r e).2, h.p3.turned hg fun r e => (hr r e).2, h.keep.turned hg fun r e => (hr r e).1⟩
end
theorem qou (G : Gm.G) (b B c gs i o : Nat) (x y vx vy left X Y : Int) (w : World) (hbB : b <= B) (hi : i < G.qaa.length) (h : qaW b B (some ⟨gs, 0, none⟩) c G w) (hs : G.qaa[i] = ⟨o, x, y, vx, vy, left⟩) (ho : o < 8)
 (ok : Gm.qa7 ⟨o, x, y, vx, vy, left⟩) (hsh : ∀ j, j < 8 -> Gm.qaX (G.ship j)) (hd : 0 <= G.dice /\ G.dice <= 18446744073709551615) (hX : Gf.move x vx = X) (hY : Gf.move y vy = Y) (dx dy dd : Int)
 (hdx : Dn.share (Dn.next G.dice) 16777216 = dx) (hdy : Dn.share (Dn.next (Dn.next G.dice)) 16777216 = dy) (hdd : Dn.next (Dn.next G.dice) = dd) :
 Calls Tryz.prog 131 #[.pointer (some ⟨B, 0, none⟩), .pointer (some ⟨gs, i * 6, none⟩)] w fun e w' =>
  (left - 1 = 0 /\ e = .returned (.bool false) /\ qaW b B (some ⟨gs, 0, none⟩) c (flyG G i ⟨o, X, Y, vx, vy, left - 1⟩) w' /\ Keep b B w w') \/
  (left - 1 ≠ 0 /\ Gm.hit G.ship ⟨o, X, Y, vx, vy, left - 1⟩ = -1 /\ e = .returned (.bool true) /\ qaW b B (some ⟨gs, 0, none⟩) c (flyG G i ⟨o, X, Y, vx, vy, left - 1⟩) w' /\ Keep b B w w') \/
  (∃ kh, left - 1 ≠ 0 /\ Gm.hit G.ship ⟨o, X, Y, vx, vy, left - 1⟩ = (kh : Nat) /\ e = .returned (.bool false) /\
   qaW b B (some ⟨gs, 0, none⟩) c { flyG G i ⟨o, X, Y, vx, vy, left - 1⟩ with dice := dd, ship := Gm.more (Gm.upd G.ship kh ⟨true, dx, dy, 0, 0, 0, (G.ship kh).score⟩) o } w' /\ Keep b B w w') := by
 have C0 : qbu b B c gs i w.heap.size (w.heap.size + 1) (w.heap.size + 1 + 1) w G ⟨o, x, y, vx, vy, left⟩ false (((w.alloc (.cells #[.pointer (some ⟨B, 0, none⟩)] 175)).alloc (.cells #[.pointer (some ⟨gs, i * 6, none⟩)] 181)).alloc (.cells #[.bool false] 4)) := by
  refine ⟨?_, ((Box.made w _ _).alloc _).alloc _, (Box.qaq _ _ _ (by simp)).alloc _, Box.qaq _ _ _ (by simp), ((((Keep.refl hbB w).alloc _).alloc _).alloc _)⟩
  have h' := ((h.alloc (.cells #[.pointer (some ⟨B, 0, none⟩)] 175)).alloc (.cells #[.pointer (some ⟨gs, i * 6, none⟩)] 181)).alloc (.cells #[.bool false] 4)
  rw [<- hs, qoz G i hi]
  exact h'
 have HC := qh C0
 have OK := qh ok
 have HS := qh hs
 have HSH := qh hsh
 obtain ⟨o1, o2, o3, o4, o5, o6, o7, o8⟩ := ok
 simp only [Gm.inF, Gm.slow] at o1 o2 o3 o4 o5 o6 o7 o8
 have m1 := Gf.qb3 x vx
 have m2 := Gf.qb3 y vy
 have k1 := fun W => qh (qdD x vx (by omega) (by omega) W)
 have k2 := fun W => qh (qdD y vy (by omega) (by omega) W)
 rw [hX] at m1 k1
 rw [hY] at m2 k2
 have hsub : IntKind.i64.wrap (left - 1) = left - 1 := by rw [IntKind.wrap_i64]; omega
 clear C0 h hs hsh hX hY
 refine (callsIn_wide (n := 10)).1 (callsIn_of_wp_marks Tryz.func131 rfl trivial (wpIn_wide.2 ?_) rfl)
 simp only [Tryz.ntmps131, List.size_toArray, List.length_cons, List.length_nil, Nat.reduceAdd, Nat.reduceSub, Array.replicate_succ, Array.replicate_zero, List.push_toArray, List.append_toArray, List.nil_append, List.cons_append]
 go_upto_region 1 with fail
 refine Ry.qbf (by kernel_rfl) [0, 1, 2, 6, 11, 15, 3, 7, 12, 16, 20, 23] (by kernel_rfl) (qbu b B c gs i w.heap.size (w.heap.size + 1) (w.heap.size + 1 + 1) w G ⟨o, x, y, vx, vy, left⟩ false) (qbu b B c gs i w.heap.size (w.heap.size + 1) (w.heap.size + 1 + 1) w G ⟨o, x, y, vx, vy, left⟩ false) (fun W => Box W (w.heap.size + 1) 181 #[.pointer (some ⟨gs, i * 6, none⟩)]) HC.out.drew (fun W hW => ⟨hW, hW.p2⟩) ?_
 repeat (first
  | (apply Ry.qbg rfl rfl; focus (intro _; go_simp; first | done | rfl))
  | (apply Ry.qhW rfl rfl rfl rfl; focus (intro W hW; have y2 := Box.cell hW; clear hW; go_simp; first | done | rfl))
  | (apply Ry.qcy rfl rfl rfl rfl; focus (intro W hW; have z0 := hW.has.shot hi 0 (by omega); have z1 := hW.has.shot hi 1 (by omega); have z2 := hW.has.shot hi 2 (by omega); have z3 := hW.has.shot hi 3 (by omega); have z4 := hW.has.shot hi 4 (by omega); have z5 := hW.has.shot hi 5 (by omega); simp only [Gm.Shot.cells, List.getElem?_cons_zero, List.getElem?_cons_succ, Nat.add_zero] at z0 z1 z2 z3 z4 z5; clear hW; go_simp; first | done | rfl))
  | (apply Ry.qcz (C' := qbu b B c gs i w.heap.size (w.heap.size + 1) (w.heap.size + 1 + 1) w G ⟨o, x, y, vx, vy, left⟩ false) rfl; (focus (intro W hW; clear hW; go_simp; first | done | rfl | exact ⟨rfl, rfl⟩)); (focus (intro W hW; first | ((with_reducible refine (k1 W).out.mono ?_); exact fun e w' h => ⟨h.1, hW.call h.2⟩) | ((with_reducible refine (k2 W).out.mono ?_); exact fun e w' h => ⟨h.1, hW.call h.2⟩))); (focus (exact fun W hW => ⟨hW, hW.p2⟩))))
 refine Ry.qbI rfl rfl (C' := qbu b B c gs i w.heap.size (w.heap.size + 1) (w.heap.size + 1 + 1) w G ⟨o, X, y, vx, vy, left⟩ false) (D' := qbu b B c gs i w.heap.size (w.heap.size + 1) (w.heap.size + 1 + 1) w G ⟨o, X, y, vx, vy, left⟩ false) (fun W hW => ⟨_, ?_, hW.put hi (j := 1) (by omega) rfl⟩) (fun W hW => ⟨hW, hW.p2⟩) ?_
 focus
  have y2 := hW.p2.cell
  have f0 := hW.has.qij
  have z1 := hW.has.shot hi 1 (by omega)
  simp only [Gm.Shot.cells, List.getElem?_cons_zero, List.getElem?_cons_succ] at z1
  clear hW
  go_simp
  first | done | rfl
 repeat (first
  | (apply Ry.qbg rfl rfl; focus (intro _; go_simp; first | done | rfl))
  | (apply Ry.qhW rfl rfl rfl rfl; focus (intro W hW; have y2 := Box.cell hW; clear hW; go_simp; first | done | rfl))
  | (apply Ry.qcy rfl rfl rfl rfl; focus (intro W hW; have z0 := hW.has.shot hi 0 (by omega); have z1 := hW.has.shot hi 1 (by omega); have z2 := hW.has.shot hi 2 (by omega); have z3 := hW.has.shot hi 3 (by omega); have z4 := hW.has.shot hi 4 (by omega); have z5 := hW.has.shot hi 5 (by omega); simp only [Gm.Shot.cells, List.getElem?_cons_zero, List.getElem?_cons_succ, Nat.add_zero] at z0 z1 z2 z3 z4 z5; clear hW; go_simp; first | done | rfl))
  | (apply Ry.qcz (C' := qbu b B c gs i w.heap.size (w.heap.size + 1) (w.heap.size + 1 + 1) w G ⟨o, X, y, vx, vy, left⟩ false) rfl; (focus (intro W hW; clear hW; go_simp; first | done | rfl | exact ⟨rfl, rfl⟩)); (focus (intro W hW; first | ((with_reducible refine (k1 W).out.mono ?_); exact fun e w' h => ⟨h.1, hW.call h.2⟩) | ((with_reducible refine (k2 W).out.mono ?_); exact fun e w' h => ⟨h.1, hW.call h.2⟩))); (focus (exact fun W hW => ⟨hW, hW.p2⟩))))
 refine Ry.qbI rfl rfl (C' := qbu b B c gs i w.heap.size (w.heap.size + 1) (w.heap.size + 1 + 1) w G ⟨o, X, Y, vx, vy, left⟩ false) (D' := qbu b B c gs i w.heap.size (w.heap.size + 1) (w.heap.size + 1 + 1) w G ⟨o, X, Y, vx, vy, left⟩ false) (fun W hW => ⟨_, ?_, hW.put hi (j := 2) (by omega) rfl⟩) (fun W hW => ⟨hW, hW.p2⟩) ?_
 focus
  have y2 := hW.p2.cell
  have f0 := hW.has.qij
  have z2 := hW.has.shot hi 2 (by omega)
  simp only [Gm.Shot.cells, List.getElem?_cons_zero, List.getElem?_cons_succ] at z2
  clear hW
  go_simp
  first | done | rfl
 refine Ry.qcd fun W1 HW => ?_
 have HC1 := qh HW
 have y2 := HW.p2.cell
 have f0 := HW.has.qij
 have z5 := HW.has.shot hi 5 (by omega)
 simp only [Gm.Shot.cells, List.getElem?_cons_zero, List.getElem?_cons_succ] at z5
 clear HW HC
 go_upto_region 3 with fail
 obtain ⟨W2, hW2⟩ : ∃ W2, W2 = W1.setCell ⟨gs, i * 6 + 5, none⟩ (.int .i64 (left - 1)) := ⟨_, rfl⟩
 have HF : qbu b B c gs i w.heap.size (w.heap.size + 1) (w.heap.size + 1 + 1) w G ⟨o, X, Y, vx, vy, left - 1⟩ false W2 := by rw [hW2]; exact HC1.out.put hi (j := 5) (by omega) rfl
 rw [<- hW2]
 have HC2 := qh HF
 clear hW2 HC1 z5 f0 y2
 have y2 := HF.p2.cell
 have y1 := HF.p1.cell
 have y3 := HF.p3.cell
 have g3 := HF.p3.free
 have z5 := HF.has.shot hi 5 (by omega)
 simp only [Gm.Shot.cells, List.getElem?_cons_zero, List.getElem?_cons_succ] at z5
 clear HF
 by_cases hl0 : left - 1 = 0
 · have hb : (left - 1 == 0) = true := by simpa using hl0
   have HF3 := qh (HC2.out.flag (by omega) false)
   have hc3 : (W2.setCell ⟨w.heap.size + 1 + 1, 0, none⟩ (.bool false)).cell? ⟨w.heap.size + 1 + 1, 0, none⟩ = some (.bool false) := HF3.out.p3.cell 0
   have HL0 := qh hl0
   clear hl0
   go_wp2
   refine ⟨.bool false, ?_, .inl ⟨HL0.out, rfl, HF3.out.has, HF3.out.keep⟩⟩
   simp [results, Tryz.f131, go_sem, hc3]
 · have hb : (left - 1 == 0) = false := by simp; omega
   have HL0 := qh hl0
   clear hl0
   go_upto_block 0 with (go_at_call 125; ((with_reducible refine (qh0 _ _).mono ?_); rintro e w3 ⟨rfl, rfl⟩))
   have F0 : qbu b B c gs i w.heap.size (w.heap.size + 1) (w.heap.size + 1 + 1) w G ⟨o, X, Y, vx, vy, left - 1⟩ false (W2.alloc (.cells #[.pointer (some ⟨B, 0, none⟩)] 175)) := HC2.out.alloc _
   have PB : Box (W2.alloc (.cells #[.pointer (some ⟨B, 0, none⟩)] 175)) W2.heap.size 175 #[.pointer (some ⟨B, 0, none⟩)] := Box.made _ _ _
   generalize W2.alloc (.cells #[.pointer (some ⟨B, 0, none⟩)] 175) = W3 at F0 PB ⊢
   generalize W2.heap.size = Bg at PB ⊢
   have hfl0 : qel B Bg (fun j => (G.ship j).on) W3 := ⟨PB.cell 0, fun k hk => F0.has.has.flags k hk⟩
   have FF0 := qh F0
   have PB0 := qh PB
   clear F0 PB y1 y2 y3 g3 z5 HC2
   refine (wpIn_wide (n := 10)).1 ?_
   refine wpIn_block ?_
   refine wpIn_rangeFunc_ownF (n := 10) (w := W3) rfl (by omega) (gf := 157) (lb := #[.pointer (some ⟨Bg, 0, none⟩)]) rfl trivial (enters_of Tryz.func157 (by kernel_rfl) rfl)
    (qeR (fun j => (G.ship j).on) B Bg _ W3 hfl0) qox (qoy (n := W3.heap.size)) (Below.refl _ _) (fun _ => rfl)
    (fun pre V => qbu b B c gs i w.heap.size (w.heap.size + 1) (w.heap.size + 1 + 1) w G ⟨o, X, Y, vx, vy, left - 1⟩ false V /\ ∀ y ∈ pre, Gm.qcD G.ship ⟨o, X, Y, vx, vy, left - 1⟩ y.1 = false)
    (fun c' pre V => c' = .ret /\ ∃ (pre' : List (Slot fun j => (G.ship j).on)) (x : Slot fun j => (G.ship j).on), pre = pre' ++ [x] /\ (∀ y ∈ pre', Gm.qcD G.ship ⟨o, X, Y, vx, vy, left - 1⟩ y.1 = false) /\ Gm.qcD G.ship ⟨o, X, Y, vx, vy, left - 1⟩ x.1 = true /\
     qaW b B (some ⟨gs, 0, none⟩) c { flyG G i ⟨o, X, Y, vx, vy, left - 1⟩ with dice := dd, ship := Gm.more (Gm.upd G.ship x.1 ⟨true, dx, dy, 0, 0, 0, (G.ship x.1).score⟩) o } V /\ Box V (w.heap.size + 1 + 1) 4 #[.bool false] /\ Keep b B w V)
    (fun pre V V' row h hgr hr => ⟨h.1.turned hgr (fun r e => ⟨Nat.le_trans FF0.out.keep.size (hr r e).1, (hr r e).2⟩), h.2⟩)
    (fun c' pre V V' row h hgr hr => by
     obtain ⟨h0, pre', x, h1, h2, h3, h4, h5, h6⟩ := h
     exact ⟨h0, pre', x, h1, h2, h3, h4.turned hgr fun r e => (hr r e).2, h5.turned hgr fun r e => (hr r e).2, h6.turned hgr fun r e => Nat.le_trans FF0.out.keep.size (hr r e).1⟩)
    ⟨FF0.out, by simp⟩
    (fun z => { tmps := #[.pointer (some ⟨B, 0, none⟩), .pointer (some ⟨gs, i * 6, none⟩), .pointer (some ⟨w.heap.size, 0, none⟩), .pointer (some ⟨w.heap.size + 1, 0, none⟩), .pointer (some ⟨w.heap.size + 1 + 1, 0, none⟩), .int .i64 z.1, .pointer (some ⟨B, 2 + z.1 * 7, none⟩), .pointer (some ⟨gs, i * 6, none⟩), .pointer (some ⟨gs, i * 6, none⟩), .pointer (some ⟨gs, i * 6, none⟩), .pointer (some ⟨gs, i * 6, none⟩), .pointer (some ⟨gs, i * 6 + 1, none⟩), .int .i32 x, .pointer (some ⟨gs, i * 6, none⟩), .pointer (some ⟨gs, i * 6, none⟩), .pointer (some ⟨gs, i * 6 + 3, none⟩), .int .i32 vx, .int .i32 X, .pointer (some ⟨gs, i * 6, none⟩), .pointer (some ⟨gs, i * 6, none⟩), .pointer (some ⟨gs, i * 6 + 2, none⟩), .int .i32 y, .pointer (some ⟨gs, i * 6, none⟩), .pointer (some ⟨gs, i * 6, none⟩), .pointer (some ⟨gs, i * 6 + 4, none⟩), .int .i32 vy, .int .i32 Y, .pointer (some ⟨gs, i * 6, none⟩), .pointer (some ⟨gs, i * 6 + 1, none⟩), .pointer (some ⟨gs, i * 6, none⟩), .pointer (some ⟨gs, i * 6 + 2, none⟩), .pointer (some ⟨gs, i * 6, none⟩), .pointer (some ⟨gs, i * 6, none⟩), .pointer (some ⟨gs, i * 6 + 5, none⟩), .int .i64 left, .int .i64 (left - 1), .pointer (some ⟨gs, i * 6, none⟩), .pointer (some ⟨gs, i * 6 + 5, none⟩), .pointer (some ⟨gs, i * 6, none⟩), .pointer (some ⟨gs, i * 6, none⟩), .pointer (some ⟨gs, i * 6 + 5, none⟩), .int .i64 (left - 1), .bool false, .pointer (some ⟨B, 0, none⟩), .func (.func 157) #[] #[.pointer (some ⟨Bg, 0, none⟩)], .int .i64 z.1, .pointer (some ⟨B, 2 + z.1 * 7, none⟩), undef, undef, undef, undef, undef, undef, undef, undef, undef, undef, undef, undef, undef, undef, undef, undef, undef, undef, undef, undef, undef, undef, undef, undef, undef, undef, undef, undef, undef, undef, undef, undef], defers := [] }) ?assign ?body ?done ?stop
   case assign =>
    intro l z V K hK
    gi_wp2
    exact hK
   case body =>
    rintro l pre ⟨k, hk, hon⟩ V ⟨hF, hpre⟩ hlen
    dsimp only
    refine wpIn_block ?_
    refine wpIn_seq_k ?_
    intro K hK
    have hk8 : (k : Int) < 8 := by omega
    have hoks := HSH.out k hk
    have y1 : ∀ q : Ext V.heap.size V, q.w.cell? ⟨w.heap.size, 0, none⟩ = some (.pointer (some ⟨B, 0, none⟩)) := fun q => q.cell hF.p1.lt (hF.p1.cell 0)
    have y2 : ∀ q : Ext V.heap.size V, q.w.cell? ⟨w.heap.size + 1, 0, none⟩ = some (.pointer (some ⟨gs, i * 6, none⟩)) := fun q => q.cell hF.p2.lt (hF.p2.cell 0)
    have gsl : gs < V.heap.size := by obtain ⟨cs, hr, _⟩ := hF.has.row; exact hr.lt
    have z0 := hF.has.shot hi 0 (by omega)
    have z1 := hF.has.shot hi 1 (by omega)
    have z2 := hF.has.shot hi 2 (by omega)
    simp only [Gm.Shot.cells, List.getElem?_cons_zero, List.getElem?_cons_succ, Nat.add_zero] at z0 z1 z2
    have z0 : ∀ q : Ext V.heap.size V, q.w.cell? ⟨gs, i * 6, none⟩ = some (.int .i64 o) := fun q => q.cell gsl z0
    have z1 : ∀ q : Ext V.heap.size V, q.w.cell? ⟨gs, i * 6 + 1, none⟩ = some (.int .i32 X) := fun q => q.cell gsl z1
    have z2 : ∀ q : Ext V.heap.size V, q.w.cell? ⟨gs, i * 6 + 2, none⟩ = some (.int .i32 Y) := fun q => q.cell gsl z2
    have sx := (hF.has.game.cell (2 + k * 7 + 1)).trans (Gm.qae _ _ k 1 hk (by omega))
    have sy := (hF.has.game.cell (2 + k * 7 + 2)).trans (Gm.qae _ _ k 2 hk (by omega))
    simp only [Gm.Ship.cells, List.getElem?_cons_zero, List.getElem?_cons_succ] at sx sy
    have sx : ∀ q : Ext V.heap.size V, q.w.cell? ⟨B, 2 + k * 7 + 1, none⟩ = some (.int .i32 (G.ship k).x) := fun q => q.cell hF.has.game.lt sx
    have sy : ∀ q : Ext V.heap.size V, q.w.cell? ⟨B, 2 + k * 7 + 2, none⟩ = some (.int .i32 (G.ship k).y) := fun q => q.cell hF.has.game.lt sy
    have hh1 : Gm.qcD G.ship ⟨o, X, Y, vx, vy, left - 1⟩ k = (decide ((k : Int) ≠ o) && Gf.hits X Y (G.ship k).x (G.ship k).y) := by
     have hon' : (G.ship k).on = true := hon
     unfold Gm.qcD; rw [hon']; rfl
    obtain ⟨_, ⟨hx1, hx2⟩, ⟨hy1, hy2⟩, _⟩ := hoks
    have chits := fun Z => qh (qlb X Y (G.ship k).x (G.ship k).y (by omega) (by omega) (by omega) (by omega) Z)
    generalize (G.ship k).x = SX at sx hh1 hx1 hx2 chits
    generalize (G.ship k).y = SY at sy hh1 hy1 hy2 chits
    have HF := qh hF
    have HP := qh hpre
    have HH1 := qh hh1
    clear hF hpre hh1
    by_cases hko : k = o
    · subst hko
      refine Rt.qdq V.heap.size V (by kernel_rfl) (by kernel_rfl) (by kernel_rfl) (by rintro ⟨_, _, h⟩; exact h) (Below.refl _ _) ?_
      repeat (go_big_quiet_step ((go_at_call 161; with_reducible exact Calls.qcn (Nat.le_refl _) (chits _).out)))
      refine wpQuiet_nil ?_
      intro _ hw'
      obtain ⟨q, hw''⟩ := hw'
      subst hw''
      refine hK _ _ ?_
      have hnew : ∀ y ∈ pre ++ [(⟨k, hk, hon⟩ : Slot fun j => (G.ship j).on)], Gm.qcD G.ship ⟨k, X, Y, vx, vy, left - 1⟩ y.1 = false := fun y hy => by
       rcases List.mem_append.1 hy with h | h
       · exact HP.out y h
       · simp only [List.mem_singleton] at h
         subst h
         show Gm.qcD G.ship ⟨k, X, Y, vx, vy, left - 1⟩ k = false
         rw [HH1.out]; simp
      have HN := qh hnew
      clear hnew
      gi_wp2
      refine ⟨qbp q.h, fun hf => hf.below q.h, HF.out.call q.h, ?_⟩
      first
       | exact HN.out
       | exact fun a hb hm => HN.out ⟨a, hb⟩ hm
    · have hne : ((k : Int) == (o : Int)) = false := by simp; omega
      have hne2 : ((k : Int) != (o : Int)) = true := by simp; omega
      have hne3 : ¬ (k : Int) = (o : Int) := by omega
      have hne4 : (k == o) = false := by simp; omega
      have hne5 : (k != o) = true := by simp; omega
      have hdo : decide ((k : Int) ≠ o) = true := by simp; omega
      rw [hdo, Bool.true_and] at HH1
      cases hhit : Gf.hits X Y SX SY
      · rw [hhit] at chits HH1
        refine Rt.qdq V.heap.size V (by kernel_rfl) (by kernel_rfl) (by kernel_rfl) (by rintro ⟨_, _, h⟩; exact h) (Below.refl _ _) ?_
        repeat (go_big_quiet_step ((go_at_call 161; with_reducible exact Calls.qcn (Nat.le_refl _) (chits _).out)))
        refine wpQuiet_nil ?_
        intro _ hw'
        obtain ⟨q, hw''⟩ := hw'
        subst hw''
        refine hK _ _ ?_
        have hnew : ∀ y ∈ pre ++ [(⟨k, hk, hon⟩ : Slot fun j => (G.ship j).on)], Gm.qcD G.ship ⟨o, X, Y, vx, vy, left - 1⟩ y.1 = false := fun y hy => by
         rcases List.mem_append.1 hy with h | h
         · exact HP.out y h
         · simp only [List.mem_singleton] at h
           subst h
           show Gm.qcD G.ship ⟨o, X, Y, vx, vy, left - 1⟩ k = false
           exact HH1.out
        have HN := qh hnew
        clear hnew
        gi_wp2
        refine ⟨qbp q.h, fun hf => hf.below q.h, HF.out.call q.h, ?_⟩
        first
         | exact HN.out
         | exact fun a hb hm => HN.out ⟨a, hb⟩ hm
      · rw [hhit] at chits HH1
        refine Rt.qdq V.heap.size V (by kernel_rfl) (by kernel_rfl) (by kernel_rfl) (by rintro ⟨_, _, h⟩; exact h) (Below.refl _ _) ?_
        repeat (go_big_quiet_step ((go_at_call 161; with_reducible exact Calls.qcn (Nat.le_refl _) (chits _).out)))
        refine wpQuiet_nil ?_
        intro _ hw'
        obtain ⟨q, hw''⟩ := hw'
        subst hw''
        refine hK _ _ ?_
        refine wpIn_cond_true rfl ?_
        refine wpIn_seq_k ?_
        intro K2 hK2
        have hfq := HF.out.call q.h
        have hs8 : ∀ i, i < 8 -> 0 <= (G.ship i).score /\ (G.ship i).score <= 1073741824 := fun i hi => ⟨(HSH.out i hi).2.2.2.2.2.2.2.1, (HSH.out i hi).2.2.2.2.2.2.2.2⟩
        have chh := fun Z (hZ : qaW b B (some ⟨gs, 0, none⟩) c (flyG G i ⟨o, X, Y, vx, vy, left - 1⟩) Z) => qh (qpH (flyG G i ⟨o, X, Y, vx, vy, left - 1⟩) b B (some ⟨gs, 0, none⟩) c k o dx dy dd Z hbB hk ho hZ hd hs8 hdx hdy hdd)
        have hoi : gs ≠ B := hfq.has.apart
        refine Rt.qmr (by kernel_rfl) (by kernel_rfl) [] (by kernel_rfl) (by rintro ⟨_, _, h⟩; exact h)
         (fun Z => qbu b B c gs i w.heap.size (w.heap.size + 1) (w.heap.size + 1 + 1) w G ⟨o, X, Y, vx, vy, left - 1⟩ false Z /\ KeepsOthers V Z)
         (fun Z => Box Z w.heap.size 175 #[.pointer (some ⟨B, 0, none⟩)] /\ Box Z (w.heap.size + 1) 181 #[.pointer (some ⟨gs, i * 6, none⟩)] /\ Z.cell? ⟨gs, i * 6, none⟩ = some (.int .i64 o))
         (fun _ => True) ⟨hfq.drew, (qbp q.h).trans (KeepsOthers.drew _)⟩ (fun Z hZ => ⟨⟨hZ.1.p1, hZ.1.p2, hZ.1.has.shot hi 0 (by omega)⟩, trivial⟩) ?_
        repeat (first
         | (apply Ry.qbg rfl rfl; focus (intro _; go_simp; first | done | rfl))
         | (apply Ry.qcy rfl rfl rfl rfl; focus (intro Z hZ; obtain ⟨hZ1, hZ2, hZ3⟩ := hZ; have u1 := Box.cell hZ1; have u2 := Box.cell hZ2; clear hZ1 hZ2; go_simp; first | done | rfl)))
        refine Ry.qcz (C' := fun Z => (qaW b B (some ⟨gs, 0, none⟩) c { flyG G i ⟨o, X, Y, vx, vy, left - 1⟩ with dice := dd, ship := Gm.more (Gm.upd G.ship k ⟨true, dx, dy, 0, 0, 0, (G.ship k).score⟩) o } Z /\ Box Z w.heap.size 175 #[.pointer (some ⟨B, 0, none⟩)] /\ Box Z (w.heap.size + 1) 181 #[.pointer (some ⟨gs, i * 6, none⟩)] /\ Box Z (w.heap.size + 1 + 1) 4 #[.bool false] /\ Keep b B w Z) /\ KeepsOthers V Z) (v := .tuple #[]) (f := 162) (args := #[.pointer (some ⟨B, 0, none⟩), .pointer (some ⟨B, 2 + k * 7, none⟩), .int .i64 o]) rfl ?_ ?_ ?_ ?_
        · intro Z hZ; clear hZ; go_simp; first | done | rfl | exact ⟨rfl, rfl⟩
        · intro Z hZ
          refine (chh Z hZ.1.has).out.mono ?_
          rintro e Z2 ⟨rfl, hH2, hK2⟩
          exact ⟨rfl, ⟨hH2, hZ.1.p1.keep hK2 (Box.apart hZ.1.p1 hZ.1.has.game (by decide)) (by decide), hZ.1.p2.keep hK2 (Box.apart hZ.1.p2 hZ.1.has.game (by decide)) (by decide), hZ.1.p3.keep hK2 (Box.apart hZ.1.p3 hZ.1.has.game (by decide)) (by decide), hZ.1.keep.trans hK2⟩, hZ.2.trans (hK2.others hZ.1.has.game)⟩
        · intro Z hZ
          exact ⟨⟨hZ.1.2.1, hZ.1.2.2.1, qaW.shot (G := { G with dice := dd, ship := Gm.more (Gm.upd G.ship k ⟨true, dx, dy, 0, 0, 0, (G.ship k).score⟩) o }) hZ.1.1 hi 0 (by omega)⟩, trivial⟩
        refine Ry.qcd fun Z hZ => ?_
        obtain ⟨⟨hZ1, hZ2, hZ3, hZ4, hZ5⟩, hZ6⟩ := hZ
        refine hK2 _ _ ?_
        have Q1 := qh (hZ1.off (p := ⟨w.heap.size + 1 + 1, 0, none⟩) (Box.apart hZ4 hZ1.game (by decide)) hZ4 (by decide) (.bool false))
        have Q4 := qh (hZ4.put 0 (.bool false))
        have Q5 := qh (hZ5.fresh (p := ⟨w.heap.size + 1 + 1, 0, none⟩) (by show w.heap.size <= w.heap.size + 1 + 1; omega) (.bool false))
        have Q6 := qh (hZ6.trans (KeepsOthers.setCell Z ⟨w.heap.size + 1 + 1, 0, none⟩ (.bool false)))
        have u4 := hZ4.cell
        have v4 := hZ4.free
        clear hZ1 hZ2 hZ3 hZ4 hZ5 hZ6 hfq
        have hhk := qh HH1.out
        gi_wp2
        first
         | exact ⟨Q6.out, rfl, pre, ⟨k, hk, hon⟩, rfl, HP.out, hhk.out, Q1.out, Q4.out, Q5.out⟩
         | exact ⟨Q6.out, rfl, pre, k, ⟨⟨hk, hon⟩, rfl⟩, fun a hb hm => HP.out ⟨a, hb⟩ hm, hhk.out, Q1.out, Q4.out, Q5.out⟩
   case done =>
    rintro D xs V hD rfl ⟨hF, hn⟩ hK
    have hnone := qh (qiL (f := G.ship) (s := ⟨o, X, Y, vx, vy, left - 1⟩) 8 0 rfl hn)
    have hF3 := hF.flag (by omega) true
    have hK3 := qer (KeepsOthers.setCell V ⟨w.heap.size + 1 + 1, 0, none⟩ (.bool true)) hK
    have hDw : w.heap.size <= D := Nat.le_trans FF0.out.keep.size hD
    have HT := qh (hF3.turned (grownBy_putObj' _ D (.deferred none)) (fun r e => by cases e; exact ⟨hDw, _, hK3, rfl⟩))
    have HK3 := qh hK3
    have hc5 : ((V.setCell ⟨w.heap.size + 1 + 1, 0, none⟩ (.bool true)).putObj D (.deferred none)).cell? ⟨w.heap.size + 1 + 1, 0, none⟩ = some (.bool true) := HT.out.p3.cell 0
    have u4 := hF.p3.cell
    have v4 := hF.p3.free
    clear hn hF hF3 hK3 hK
    go_wp2
    refine ⟨by simp, .inl ⟨_, _, rfl, run_takeDeferred HK3.out, ?_⟩⟩
    refine ⟨.bool true, ?_, .inr (.inl ⟨HL0.out, hnone.out, rfl, HT.out.has, HT.out.keep⟩)⟩
    simp [results, Tryz.f131, go_sem, hc5]
   case stop =>
    rintro D c' pre V hD ⟨rest, hpre⟩ ⟨rfl, pre', x, rfl, h2, h3, h4, h5, h6⟩ hK
    have hfirst := qh (qg1 (f := G.ship) (s := ⟨o, X, Y, vx, vy, left - 1⟩) 8 0 pre' x rest rfl (by rw [hpre]; simp) h2 h3)
    have hDw : w.heap.size <= D := Nat.le_trans FF0.out.keep.size hD
    have HT4 := qh (h4.turned (grownBy_putObj' _ D (.deferred none)) (fun r e => by cases e; exact ⟨_, hK, rfl⟩))
    have HT5 := qh (h5.turned (grownBy_putObj' _ D (.deferred none)) (fun r e => by cases e; exact ⟨_, hK, rfl⟩))
    have HT6 := qh (h6.turned (grownBy_putObj' V D (.deferred none)) (fun r e => by cases e; exact hDw))
    have hc5 : (V.putObj D (.deferred none)).cell? ⟨w.heap.size + 1 + 1, 0, none⟩ = some (.bool false) := HT5.out.cell 0
    have HK3 := qh hK
    clear h2 h3 h4 h5 h6 hK hpre
    refine wpIn_ret ?_
    refine ⟨by simp, .inl ⟨_, _, rfl, run_takeDeferred HK3.out, ?_⟩⟩
    refine ⟨.bool false, ?_, .inr (.inr ⟨x.1, HL0.out, hfirst.out, rfl, HT4.out, HT6.out⟩)⟩
    simp [results, Tryz.f131, go_sem, hc5]
end Go.Proofs.YtmiopphcfdlneaaGreat
namespace Go.Proofs.YtmiopphcfdlneaaGreat
open Go.RowKit Go.Shelf
theorem qqs (G : Gm.G) (b B c gs i : Nat) (w : World) (hbB : b <= B) (hi : i < G.qaa.length) (h : qaW b B (some ⟨gs, 0, none⟩) c G w) (ok : Gm.qa7 G.qaa[i]) (hsh : ∀ j, j < 8 -> Gm.qaX (G.ship j)) (hd : 0 <= G.dice /\ G.dice <= 18446744073709551615) :
 Calls Tryz.prog 131 #[.pointer (some ⟨B, 0, none⟩), .pointer (some ⟨gs, i * 6, none⟩)] w fun e w' => e = .returned (.bool (gone G i G.qaa[i]).1) /\ qaW b B (some ⟨gs, 0, none⟩) c (gone G i G.qaa[i]).2 w' /\ Keep b B w w' := by
 generalize hs : G.qaa[i] = s at ok
 obtain ⟨owner, x, y, vx, vy, left⟩ := s
 obtain ⟨o, rfl⟩ : ∃ o : Nat, owner = o := ⟨owner.toNat, by have := ok.1; dsimp only at this; omega⟩
 have ho : o < 8 := by have := ok.2.1; dsimp only at this; omega
 have hf : Gm.fly ⟨o, x, y, vx, vy, left⟩ = ⟨o, Gf.move x vx, Gf.move y vy, vx, vy, left - 1⟩ := rfl
 refine (qou G b B c gs i o x y vx vy left _ _ w hbB hi h hs ho ok hsh hd rfl rfl _ _ _ rfl rfl rfl).mono ?_
 rintro e w' (⟨h1, rfl, h2, h3⟩ | ⟨h0, h1, rfl, h2, h3⟩ | ⟨kh, h0, h1, rfl, h2, h3⟩)
 · unfold gone
   rw [hf, if_pos h1]
   exact ⟨rfl, h2, h3⟩
 · unfold gone
   rw [hf, if_neg h0, if_pos (by rw [h1]; decide)]
   exact ⟨rfl, h2, h3⟩
 · unfold gone
   rw [hf, if_neg h0, if_neg (by rw [h1]; omega), h1]
   exact ⟨rfl, h2, h3⟩
theorem qo1 (G : Gm.G) (b B c gs i : Nat) (w : World) (hbB : b <= B) (hi : i < G.qaa.length) (h : qaW b B (some ⟨gs, 0, none⟩) c G w) (ok : Gm.qa7 G.qaa[i]) (hsh : ∀ j, j < 8 -> Gm.qaX (G.ship j)) (hd : 0 <= G.dice /\ G.dice <= 18446744073709551615) :
 Calls Tryz.prog 130 #[.pointer (some ⟨gs, i * 6, none⟩), .pointer (some ⟨B, 0, none⟩)] w fun e w' => e = .returned (.bool (gone G i G.qaa[i]).1) /\ qaW b B (some ⟨gs, 0, none⟩) c (gone G i G.qaa[i]).2 w' /\ Keep b B w w' := by
 have c1 := qh (qqs G b B c gs i w hbB hi h ok hsh hd)
 generalize gone G i G.qaa[i] = r at c1 ⊢
 clear h ok
 go_enter Tryz.func130, Tryz.ntmps130
 go_wp2_with (go_at_call 131; ((with_reducible refine (c1.out).mono ?_); rintro e w1 ⟨rfl, h1, h2⟩; have H1 := qh h1; have H2 := qh h2; clear h1 h2))
 go_ret
 exact ⟨rfl, H1.out, H2.out⟩
def qdY (P : Program) (e : TypeId) (size : Nat) (ops : Array Oper) (Q : Exit -> Act -> World -> Prop) (rest : List Oper) (dst : Option Tmp) (v q : Value) (a : Act) (w : World) : Prop :=
 ∃ (g n c : Nat) (cur : Array Value) (ad : Addr) (k : Nat) (news : List Value), v = .slice (some ⟨g, 0, none⟩) n c /\ q = .slice (some ad) 1 k /\ Box w g e cur /\ Lies w w.heap.size size (some ad) 1 news /\ (∀ u ∈ news, u.oneCell' = true) /\ n + 1 <= c /\ n * size + news.length <= cur.size /\
  wpList P ops Q rest (a.put dst (.slice (some ⟨g, 0, none⟩) (n + 1) c)) (w.setRow g (cur.toList.take (n * size) ++ news ++ cur.toList.drop (n * size + news.length)).toArray)
theorem qdY.mk {P : Program} {e : TypeId} {size : Nat} {ops : Array Oper} {Q : Exit -> Act -> World -> Prop} {rest : List Oper} {dst : Option Tmp} {v q : Value} {a : Act} {w : World} {g n c : Nat} {cur : Array Value} {ad : Addr} {k : Nat} {news : List Value}
 (hv : v = .slice (some ⟨g, 0, none⟩) n c) (hq : q = .slice (some ad) 1 k) (hB : Box w g e cur) (hl : Lies w w.heap.size size (some ad) 1 news) (h1 : ∀ u ∈ news, u.oneCell' = true) (hr : n + 1 <= c) (hf : n * size + news.length <= cur.size)
 (h : wpList P ops Q rest (a.put dst (.slice (some ⟨g, 0, none⟩) (n + 1) c)) (w.setRow g (cur.toList.take (n * size) ++ news ++ cur.toList.drop (n * size + news.length)).toArray)) : qdY P e size ops Q rest dst v q a w :=
 ⟨g, n, c, cur, ad, k, news, hv, hq, hB, hl, h1, hr, hf, h⟩
theorem qjj {P : Program} {ops : Array Oper} {rest : List Oper} {o : Oper} {a : Act} {w : World} {Q : Exit -> Act -> World -> Prop} {t e : TypeId} {i : TypeInfo} {size : Nat} {x y : Operand}
 (hgd : o.guard = none) (ho : o.op = .call { callee := .builtin .append, args := #[x, y], argTypes := #[t, t] }) (ht : P.underlying t = some (.slice e)) (hi : P.info? e = some i) (hs : i.size = size)
 (h : qdY P e size ops Q rest o.dst (a.eval x) (a.eval y) a w) : wpList P ops Q (o :: rest) a w := by
 obtain ⟨g, n, c, cur, ad, k, news, hv, hq, hB, hl, h1, hr, hf, h⟩ := h
 subst hs
 have hrun := run_append_room (P := P) (w := w) t o.type e i ht hi g n c cur hB.is ad 1 k news hl.len (fun j u hu => hl.cell ad rfl (by decide) j u hu) h1 hr hf
 refine wpList_plain hgd fun _ hK => ?_
 unfold Oper.wp
 rw [qg9 ho hv hq hrun]
 exact hK _ _ h
theorem qhs (L : List Gm.Shot) (n : Nat) (hn : n < L.length) (s : Gm.Shot) : Gm.qad (L.set n s) = (Gm.qad L).take (n * 6) ++ s.cells ++ (Gm.qad L).drop (n * 6 + 6) := by
 induction L generalizing n with
 | nil => simp at hn
 | cons a L ih =>
  have hlen : a.cells.length = 6 := rfl
  unfold Gm.qad at *
  match n with
  | 0 => rw [List.set_cons_zero, List.flatMap_cons, List.flatMap_cons]; simp [hlen]
  | n + 1 =>
   rw [List.set_cons_succ, List.flatMap_cons, List.flatMap_cons, ih n (by simpa using hn), show (n + 1) * 6 = a.cells.length + n * 6 by rw [hlen]; omega, List.take_length_add_append, show a.cells.length + n * 6 + 6 = a.cells.length + (n * 6 + 6) by omega, List.drop_length_add_append]
   simp
theorem qaW.room {b B c gs n : Nat} {G : Gm.G} {W : World} (h : qaW b B (some ⟨gs, 0, none⟩) c G W) (hn : n < G.qaa.length) (s : Gm.Shot) :
 ∃ cur, Box W gs 80 cur /\ n + 1 <= c /\ n * 6 + 6 <= cur.size /\ qaW b B (some ⟨gs, 0, none⟩) c { G with qaa := G.qaa.set n s } (W.setRow gs (cur.toList.take (n * 6) ++ s.cells ++ cur.toList.drop (n * 6 + 6)).toArray) := by
 have hap := h.apart
 obtain ⟨hg, hl, ⟨h0, _⟩ | ⟨g', cap, cur, hv, hb, hgg, hnc, hcm, hcs, htake⟩⟩ := h
 · cases h0
 · injection hv with e1 e2 e3
   injection e1 with e1
   injection e1 with e1
   subst e1 e3
   have hfit : n * 6 + 6 <= cur.size := by omega
   refine ⟨cur, ⟨hgg⟩, by omega, hfit, ?_, ?_, ?_⟩
   · dsimp only
     rw [show (G.qaa.set n s).length = G.qaa.length by simp]
     exact hg.qbn (fun e => hap e.symm) _
   · dsimp only
     rw [Gm.qil]
   · dsimp only
     rw [show (G.qaa.set n s).length = G.qaa.length by simp]
     refine .inr ⟨gs, c, _, rfl, hb, (Box.row ⟨hgg⟩ _).is, hnc, hcm, ?_, ?_⟩
     · have : s.cells.length = 6 := rfl
       simp [this]; omega
     · rw [qhs _ _ hn, <- htake]
       have hc6 : s.cells.length = 6 := rfl
       have hcl : cur.toList.length = c * 6 := by simpa using hcs
       have hm : n * 6 + 6 <= G.qaa.length * 6 := by omega
       have hm2 : G.qaa.length * 6 <= c * 6 := by omega
       generalize G.qaa.length * 6 = M at *
       generalize n * 6 = K at *
       generalize cur.toList = Z at *
       rw [List.take_append, List.take_append]
       simp only [List.length_append, List.length_take, hc6, hcl]
       rw [List.take_take, List.take_take]
       rw [show min M K = K by omega, show min K (c * 6) = K by omega, show min K M = K by omega, List.take_of_length_le (l := s.cells) (by omega), List.drop_take]
theorem qjO (g : Gm.G) (b B : Nat) (f : Value) (w : World) (hbB : b <= B) (h : Has b B g w) (h0 : g.qaa = []) :
 Calls Tryz.prog 129 #[.pointer (some ⟨B, 0, none⟩), f] w fun e w' => e = .returned (.tuple #[]) /\ Has b B g w' /\ Keep b B w w' := by
 obtain ⟨A, c, hB, hO⟩ := h
 rw [h0] at hB hO
 have hn : ([] : List Gm.Shot).length = 0 := rfl
 rw [hn] at hB hO
 have hc := hB.cell
 have hf := hB.free
 have e58 := Gm.qbc g (.slice A 0 c)
 have fin : Has b B g (w.setCell ⟨B, 58, none⟩ (.slice A 0 c)) := ⟨A, c, by rw [h0]; exact qch hB _, by rw [h0]; exact ownsRow_setCell_other (a := ⟨B, 58, none⟩) hO (hB.qaM hO (by decide)) _⟩
 have FIN := qh fin
 have HK := qh ((Keep.refl hbB w).put 58 (.slice A 0 c))
 have hA : A = none -> c = 0 := fun e => by
  subst e
  obtain ⟨_, ⟨h, _⟩ | ⟨_, _, _, h, _⟩⟩ := hO
  · injection h
  · cases h
 clear hB hO fin
 cases A with
 | none =>
  obtain rfl := hA rfl
  clear hA
  go_enter Tryz.func129, Tryz.ntmps129
  go_wp2
  go_loopg [4, 16] 0 (fun gg s4 i wr => gg = 0 /\ s4 = .slice none 0 0 /\ i = .int .i64 0 /\ wr = w)
  case atStart => exact ⟨rfl, rfl, rfl, rfl⟩
  case round =>
   obtain ⟨rfl, rfl, rfl, rfl⟩ := hrel
   go_wp2
   go_end0
   exact ⟨rfl, FIN.out, HK.out⟩
 | some ad =>
  clear hA
  go_enter Tryz.func129, Tryz.ntmps129
  go_wp2
  go_loopg [4, 16] 0 (fun gg s4 i wr => gg = 0 /\ s4 = .slice (some ad) 0 c /\ i = .int .i64 0 /\ wr = w)
  case atStart => exact ⟨rfl, rfl, rfl, rfl⟩
  case round =>
   obtain ⟨rfl, rfl, rfl, rfl⟩ := hrel
   go_wp2
   go_end0
   exact ⟨rfl, FIN.out, HK.out⟩
theorem qjJ (s : Gm.Shot) : ∀ u ∈ s.cells, u.oneCell' = true := by
 intro u hu
 simp only [Gm.Shot.cells, List.mem_cons, List.not_mem_nil, or_false] at hu
 rcases hu with rfl | rfl | rfl | rfl | rfl | rfl <;> rfl
theorem qhV (w : World) (s : Gm.Shot) : Lies (w.alloc (.cells #[.int .i64 s.owner, .int .i32 s.x, .int .i32 s.y, .int .i32 s.vx, .int .i32 s.vy, .int .i64 s.left] 80)) (w.alloc (.cells #[.int .i64 s.owner, .int .i32 s.x, .int .i32 s.y, .int .i32 s.vx, .int .i32 s.vy, .int .i64 s.left] 80)).heap.size 6 (some ⟨w.heap.size, 0, none⟩) 1 s.cells := qdT w _ s
theorem qei (L : List Gm.Shot) (n : Nat) : Gm.qad (L.take n) = (Gm.qad L).take (n * 6) := by
 induction L generalizing n with
 | nil => simp [Gm.qad]
 | cons a L ih =>
  have hlen : a.cells.length = 6 := rfl
  unfold Gm.qad at *
  match n with
  | 0 => simp
  | n + 1 => rw [List.take_succ_cons, List.flatMap_cons, List.flatMap_cons, ih n, show (n + 1) * 6 = a.cells.length + n * 6 by rw [hlen]; omega, List.take_length_add_append]
theorem qhQ {b gs m n c : Nat} {e : TypeId} {W : World} {L : List Gm.Shot} (h : W.ownsRow b e 6 (.slice (some ⟨gs, 0, none⟩) m c) m (Gm.qad L)) (hn : n <= m) : W.ownsRow b e 6 (.slice (some ⟨gs, 0, none⟩) n c) n (Gm.qad (L.take n)) := by
 obtain ⟨hl, ⟨h0, _⟩ | ⟨g', cap, cur, hv, hb, hgg, hnc, hcm, hcs, htake⟩⟩ := h
 · cases h0
 · injection hv with e1 e2 e3
   injection e1 with e1
   injection e1 with e1
   subst e1 e3
   have hle : n * 6 <= m * 6 := Nat.mul_le_mul_right 6 hn
   refine ⟨?_, .inr ⟨gs, c, cur, rfl, hb, hgg, by omega, hcm, hcs, ?_⟩⟩
   · rw [qei, List.length_take, hl]; omega
   · rw [qei, <- htake, List.take_take, Nat.min_eq_left hle]
structure qkn (b B c gs j : Nat) (w0 : World) (g : Gm.G) (st : Gm.St) (L : List Gm.Shot) (s4 : Value) (W : World) : Prop where
 len : L.length = g.qaa.length
 few : st.left.length <= j
 kept : L.take st.left.length = st.left
 rest : ∀ i, j <= i -> L[i]? = g.qaa[i]?
 left : s4 = .slice (some ⟨gs, 0, none⟩) st.left.length c
 has : qaW b B (some ⟨gs, 0, none⟩) c { g with dice := st.dice, ship := st.ship, qaa := L } W
 keep : Keep b B w0 W
theorem qif {b B c gs j : Nat} {w0 : World} {g : Gm.G} {st st' : Gm.St} {L : List Gm.Shot} {s4 : Value} {W W' : World} (h : qkn b B c gs j w0 g st L s4 W) (hl : st'.left = st.left) (F : Gm.Shot) (hh : qaW b B (some ⟨gs, 0, none⟩) c { g with dice := st'.dice, ship := st'.ship, qaa := L.set j F } W') (hk : Keep b B w0 W') : qkn b B c gs (j + 1) w0 g st' (L.set j F) s4 W' := by
 have hf := h.few
 refine ⟨by simp [h.len], by rw [hl]; omega, ?_, fun i hi => ?_, by rw [hl]; exact h.left, hh, hk⟩
 · rw [hl, List.take_set_of_le hf]
   exact h.kept
 · rw [List.getElem?_set_ne (by omega)]
   exact h.rest i (by omega)
theorem qhH {b B c gs j : Nat} {w0 : World} {g : Gm.G} {st : Gm.St} {L : List Gm.Shot} {s4 : Value} {W W' : World} (h : qkn b B c gs j w0 g st L s4 W) (hj : j < g.qaa.length) (F : Gm.Shot) (hh : qaW b B (some ⟨gs, 0, none⟩) c { g with dice := st.dice, ship := st.ship, qaa := (L.set j F).set st.left.length F } W') (hk : Keep b B w0 W') :
 qkn b B c gs (j + 1) w0 g { st with left := st.left ++ [F] } ((L.set j F).set st.left.length F) (.slice (some ⟨gs, 0, none⟩) (st.left.length + 1) c) W' := by
 have hf := h.few
 have hlen := h.len
 refine ⟨by simp [h.len], by simp; omega, ?_, fun i hi => ?_, by simp, hh, hk⟩
 · dsimp only
   rw [show (st.left ++ [F]).length = st.left.length + 1 by simp, List.take_succ_eq_append_getElem (by simp; omega)]
   congr 1
   · rw [List.take_set_of_le (Nat.le_refl _), List.take_set_of_le hf]
     exact h.kept
   · simp
 · rw [List.getElem?_set_ne (by omega), List.getElem?_set_ne (by omega)]
   exact h.rest i (by omega)
theorem qok (g : Gm.G) (b B : Nat) (w : World) (hbB : b <= B) (h : Has b B g w) (hne : g.qaa.length ≠ 0) (hoks : ∀ t ∈ g.qaa, Gm.qa7 t) (hsh : ∀ j, j < 8 -> Gm.qaX (g.ship j)) (hd : 0 <= g.dice /\ g.dice <= 18446744073709551615) (hlen : g.qaa.length <= 32) (fin : Gm.St) (hfin : fin = Gm.ph2 ⟨g.dice, g.ship, []⟩ g.qaa) :
 Calls Tryz.prog 129 #[.pointer (some ⟨B, 0, none⟩), .func (.func 130) #[] #[.pointer (some ⟨B, 0, none⟩)]] w fun e w' => e = .returned (.tuple #[]) /\ Has b B { g with dice := fin.dice, ship := fin.ship, qaa := fin.left } w' /\ Keep b B w w' := by
 obtain ⟨A, c, hB, hO⟩ := h
 have h : qaW b B A c g w := ⟨hB, hO⟩
 obtain ⟨gs, rfl, hbg, _⟩ := h.len hne
 obtain ⟨m, hm⟩ : ∃ m, m = g.qaa.length := ⟨_, rfl⟩
 have way0 : Gm.Way2 ⟨g.dice, g.ship, []⟩ := ⟨hsh, fun t ht => (by cases ht), hd⟩
 have start : qkn b B c gs 0 w g ⟨g.dice, g.ship, []⟩ g.qaa (.slice (some ⟨gs, 0, none⟩) 0 c) w :=
  ⟨rfl, Nat.le_refl _, rfl, fun _ _ => rfl, rfl, h, Keep.refl hbB w⟩
 have START := qh start
 have hcc := hB.cell
 have e58 := Gm.qbc g (.slice (some ⟨gs, 0, none⟩) g.qaa.length c)
 rw [<- hm] at hcc e58 hne hlen
 obtain ⟨i0, hi0, hz0, hz1, hz2⟩ := info_parts qdo
 have hI := qh hi0
 have hS := qh hz1
 have HM := qh hm
 have HFIN := qh hfin
 clear hB hO h start hi0 hz0 hz1 hz2 hm hfin
 go_enter Tryz.func129, Tryz.ntmps129
 go_wp2
 go_loopg [4, 16] m (fun gg s4 i wr => ∃ (j : Nat) (L : List Gm.Shot), j <= m /\ gg = m - j /\ i = .int .i64 j /\ qkn b B c gs j w g (Gm.ph2 ⟨g.dice, g.ship, []⟩ (g.qaa.take j)) L s4 wr)
 case atStart => exact ⟨0, g.qaa, by omega, rfl, rfl, START.out⟩
 case round =>
  obtain ⟨j, L, hj, rfl, rfl, hR⟩ := hrel
  clear hcc e58
  have hLm : L.length = m := by rw [hR.len, HM.out]
  have r58 := Gm.qbc { g with dice := (Gm.ph2 ⟨g.dice, g.ship, []⟩ (g.qaa.take j)).dice, ship := (Gm.ph2 ⟨g.dice, g.ship, []⟩ (g.qaa.take j)).ship, qaa := L } (.slice (some ⟨gs, 0, none⟩) L.length c)
  have rc := hR.has.game.cell
  have rf := hR.has.game.free
  dsimp only at rc
  rw [hLm] at rc r58
  by_cases hlt : j < m
  · have hjm : (j : Int) < m := by omega
    have hjl : j < g.qaa.length := by rw [<- HM.out]; exact hlt
    obtain ⟨way2, len2⟩ := Gm.qgN way0 hoks j (by rw [<- HM.out]; exact hj)
    have hsn := qh (Gm.qf8 ⟨g.dice, g.ship, []⟩ g.qaa j hjl)
    have oks := hoks _ (List.getElem_mem hjl)
    have hLj : L[j]'(by rw [hLm]; exact hlt) = g.qaa[j] := by
     have := hR.rest j (Nat.le_refl _)
     rw [List.getElem?_eq_getElem (by rw [hLm]; exact hlt), List.getElem?_eq_getElem hjl] at this
     injection this
    generalize hst : Gm.ph2 ⟨g.dice, g.ship, []⟩ (g.qaa.take j) = st at *
    obtain ⟨s, hs⟩ : ∃ s, s = g.qaa[j] := ⟨_, rfl⟩
    rw [<- hs] at oks hLj
    have cst := qo1 { g with dice := st.dice, ship := st.ship, qaa := L } b B c gs j wr hbB (by rw [hLm]; exact hlt) hR.has (by rw [hLj]; exact oks) way2.qbZ way2.dice
    dsimp only at cst
    rw [hLj] at cst
    have HR := qh hR
    have HSS := qh hs
    have hs4 := hR.left
    have hfew := hR.few
    clear hR hs hLj
    subst hs4
    generalize hF : Gm.fly s = F
    by_cases h1 : F.left = 0
    · have hg1 : gone { g with dice := st.dice, ship := st.ship, qaa := L } j s = (false, flyG { g with dice := st.dice, ship := st.ship, qaa := L } j F) := by
       unfold gone; rw [hF, if_pos h1]
      rw [hg1] at cst
      have hq : Gm.qeg st s = st := by unfold Gm.qeg; rw [hF, if_pos h1]
      have HQ := qh hq
      have CST := qh cst
      clear cst hg1 hq hst
      go_wp2_with (go_at_call 130; ((with_reducible refine (CST.out).mono ?_); rintro e w1 ⟨rfl, h1', k1'⟩; have H1 := qh h1'; have K1 := qh k1'; clear h1' k1'))
      go_roundg (m - (j + 1))
      case measure => omega
      case rel =>
       refine ⟨j + 1, L.set j F, by omega, rfl, by go_num, ?_⟩
       rw [hsn.out, <- HSS.out, HQ.out]
       exact qif HR.out rfl F H1.out (HR.out.keep.trans K1.out)
    · by_cases h2 : Gm.hit st.ship F < 0
      · have hg1 : gone { g with dice := st.dice, ship := st.ship, qaa := L } j s = (true, flyG { g with dice := st.dice, ship := st.ship, qaa := L } j F) := by
         unfold gone; rw [hF, if_neg h1, if_pos h2]
        rw [hg1] at cst
        have hq : Gm.qeg st s = { st with left := st.left ++ [F] } := by unfold Gm.qeg; rw [hF, if_neg h1, if_pos h2]
        have HQ := qh hq
        have CST := qh cst
        clear cst hg1 hq hst hF h1 h2
        obtain ⟨fo, fx, fy, fvx, fvy, fl⟩ := F
        have n32 : st.left.length + 1 <= 33 := by omega
        go_wp2_with (first | (go_at_call 130; ((with_reducible refine (CST.out).mono ?_); rintro e w1 ⟨rfl, h1', k1'⟩; have a58 := Gm.qbc (flyG { g with dice := st.dice, ship := st.ship, qaa := L } j ⟨fo, fx, fy, fvx, fvy, fl⟩) (.slice (some ⟨gs, 0, none⟩) (flyG { g with dice := st.dice, ship := st.ship, qaa := L } j ⟨fo, fx, fy, fvx, fvy, fl⟩).qaa.length c); have a0 := h1'.game.cell; have q0 := h1'.shot (by rw [hLm]; exact hlt) 0 (by omega); have q1 := h1'.shot (by rw [hLm]; exact hlt) 1 (by omega); have q2 := h1'.shot (by rw [hLm]; exact hlt) 2 (by omega); have q3 := h1'.shot (by rw [hLm]; exact hlt) 3 (by omega); have q4 := h1'.shot (by rw [hLm]; exact hlt) 4 (by omega); have q5 := h1'.shot (by rw [hLm]; exact hlt) 5 (by omega); have R1 := (h1'.alloc (.cells #[.int .i64 fo, .int .i32 fx, .int .i32 fy, .int .i32 fvx, .int .i32 fvy, .int .i64 fl] 80)).room (n := st.left.length) (by show st.left.length < (L.set j _).length; rw [List.length_set, hLm]; omega) ⟨fo, fx, fy, fvx, fvy, fl⟩; obtain ⟨cur, r1, r2, r3, r4⟩ := R1; have RB := qh r1; have R4 := qh r4; have KK := qh ((HR.out.keep.trans k1').alloc (.cells #[.int .i64 fo, .int .i32 fx, .int .i32 fy, .int .i32 fvx, .int .i32 fvy, .int .i64 fl] 80)); have RL := qh (qhV w1 ⟨fo, fx, fy, fvx, fvy, fl⟩); simp only [Gm.Shot.cells, List.getElem?_cons_zero, List.getElem?_cons_succ, Nat.add_zero, List.length_set, hLm] at q0 q1 q2 q3 q4 q5 a58 a0; clear h1' k1' r1 r4 rc rf r58)) | ((with_reducible refine qjj (x := .tmp 27) (y := .tmp 35) (t := 29) (e := 80) (size := 6) rfl rfl Tryz.underlying29 hI.out hS.out ?_); refine qdY.mk rfl rfl RB.out RL.out (qjJ ⟨fo, fx, fy, fvx, fvy, fl⟩) r2 r3 ?_))
        go_roundg (m - (j + 1))
        case measure => omega
        case rel =>
         refine ⟨j + 1, (L.set j ⟨fo, fx, fy, fvx, fvy, fl⟩).set st.left.length ⟨fo, fx, fy, fvx, fvy, fl⟩, by omega, rfl, by go_num, ?_⟩
         rw [hsn.out, <- HSS.out, HQ.out]
         exact qhH HR.out hjl ⟨fo, fx, fy, fvx, fvy, fl⟩ (by have h := R4.out; rw [List.append_assoc] at h; exact h) (KK.out.row RB.out hbg _)
      · have hg1 : gone { g with dice := st.dice, ship := st.ship, qaa := L } j s = (false, { flyG { g with dice := st.dice, ship := st.ship, qaa := L } j F with dice := Gm.qeH st.dice, ship := Gm.more (Gm.anew st.dice st.ship (Gm.hit st.ship F).toNat) s.owner.toNat }) := by
         unfold gone; rw [hF, if_neg h1, if_neg h2]
        rw [hg1] at cst
        have hq : Gm.qeg st s = ⟨Gm.qeH st.dice, Gm.more (Gm.anew st.dice st.ship (Gm.hit st.ship F).toNat) s.owner.toNat, st.left⟩ := by unfold Gm.qeg; rw [hF, if_neg h1, if_neg h2]
        generalize Gm.qeH st.dice = nd at cst hq
        generalize Gm.more (Gm.anew st.dice st.ship (Gm.hit st.ship F).toNat) s.owner.toNat = nf at cst hq
        have HQ := qh hq
        have CST := qh cst
        clear cst hg1 hq hst
        go_wp2_with (go_at_call 130; ((with_reducible refine (CST.out).mono ?_); rintro e w1 ⟨rfl, h1', k1'⟩; have H1 := qh h1'; have K1 := qh k1'; clear h1' k1'))
        go_roundg (m - (j + 1))
        case measure => omega
        case rel =>
         refine ⟨j + 1, L.set j F, by omega, rfl, by go_num, ?_⟩
         rw [hsn.out, <- HSS.out, HQ.out]
         exact qif (st' := ⟨nd, nf, st.left⟩) HR.out rfl F H1.out (HR.out.keep.trans K1.out)
  · have hjm : ¬ (j : Int) < m := by omega
    have hje : j = m := by omega
    subst hje
    rw [HM.out, List.take_length, <- HFIN.out] at hR rc r58
    obtain ⟨h1, h2, h3, h4, h5, h6, h7⟩ := hR
    subst h5
    have own2 := qhQ (n := fin.left.length) h6.own (by show fin.left.length <= L.length; rw [h1]; exact h2)
    dsimp only at own2
    rw [h3] at own2
    have res : Has b B { g with dice := fin.dice, ship := fin.ship, qaa := fin.left } (wr.setCell ⟨B, 58, none⟩ (.slice (some ⟨gs, 0, none⟩) fin.left.length c)) :=
     ⟨some ⟨gs, 0, none⟩, c, qch (g := { g with dice := fin.dice, ship := fin.ship, qaa := fin.left }) h6.game _, ownsRow_setCell_other (a := ⟨B, 58, none⟩) own2 (by intro e; injection e with e; exact h6.apart e) _⟩
    have RES := qh res
    have K7 := qh (h7.put 58 (.slice (some ⟨gs, 0, none⟩) fin.left.length c))
    clear h1 h2 h3 h4 h6 h7 own2 res
    go_wp2
    go_end0
    exact ⟨rfl, RES.out, K7.out⟩
theorem qpA (g : Gm.G) (b B : Nat) (w : World) (hbB : b <= B) (h : Has b B g w) (hoks : ∀ t ∈ g.qaa, Gm.qa7 t) (hsh : ∀ j, j < 8 -> Gm.qaX (g.ship j)) (hd : 0 <= g.dice /\ g.dice <= 18446744073709551615) (hlen : g.qaa.length <= 32) (fin : Gm.St) (hfin : fin = Gm.ph2 ⟨g.dice, g.ship, []⟩ g.qaa) :
 Calls Tryz.prog 129 #[.pointer (some ⟨B, 0, none⟩), .func (.func 130) #[] #[.pointer (some ⟨B, 0, none⟩)]] w fun e w' => e = .returned (.tuple #[]) /\ Has b B { g with dice := fin.dice, ship := fin.ship, qaa := fin.left } w' /\ Keep b B w w' := by
 by_cases h0 : g.qaa = []
 · have e : fin = ⟨g.dice, g.ship, []⟩ := by rw [hfin, h0]; rfl
   subst e
   rw [show ({ g with dice := g.dice, ship := g.ship, qaa := [] } : Gm.G) = g by rw [<- h0]]
   exact qjO g b B _ w hbB h h0
 · exact qok g b B w hbB h (fun e => h0 (List.eq_nil_of_length_eq_zero e)) hoks hsh hd hlen fin hfin
attribute [local go_sem] Oper.semAt_some
def New6 (b : Nat) (A : Option Addr) (n : Nat) : Prop := n ≠ 0 -> ∀ ad, A = some ad -> b <= ad.block
theorem New6.mono {b b' n : Nat} {A : Option Addr} (h : New6 b A n) (hb : b' <= b) : New6 b' A n := fun h0 ad e => Nat.le_trans hb (h h0 ad e)
theorem New6.owned {w : World} {b size n c : Nat} {e : TypeId} {A : Option Addr} {xs : List Value} (h : w.ownsRow b e size (.slice A n c) n xs) : New6 b A n := fun h0 ad ea => by
 obtain ⟨_, ⟨_, e0⟩ | ⟨g, cap, cur, e1, hb, _⟩⟩ := h
 · exact absurd e0 h0
 · injection e1 with e1 _ _
   rw [ea] at e1
   injection e1 with e1
   rw [e1]
   exact hb
def OutN (g' : Gm.G) (code : Int) (w : World) (e : Ending) (w' : World) : Prop :=
 ∃ A c, e = .returned (.tuple #[.agg (Gm.cells g' (.slice A g'.qaa.length c)), .int .i64 code]) /\ Lies w' w'.heap.size 6 A g'.qaa.length (Gm.qad g'.qaa) /\ Below w.heap.size w w' /\ New6 w.heap.size A g'.qaa.length
theorem qo0 (ps : Nat -> Gm.In) (g : Gm.G) (A : Option Addr) (n c : Nat) (w : World) (hg : Gm.ok g) (hf : g.frame < 1048576) (hd : 0 <= g.dice /\ g.dice <= 18446744073709551615) (hp : ∀ i, i < 8 -> Gm.tyIn (ps i)) (hn : n = g.qaa.length) (hr : Lies w w.heap.size 6 A n (Gm.qad g.qaa)) :
 Calls Tryz.prog 91 #[.agg (Gm.cells g (.slice A n c)), .agg (Gm.qai ps).toArray] w (OutN (Gm.step ps g) 0 w) := by
 have b1 : Box (((w.alloc (.cells (Gm.cells g (.slice A n c)) 31)).alloc (.cells (Gm.qai ps).toArray 49)).alloc (.cells (Gm.cells qbx (.slice none 0 0)) 31)) w.heap.size 31 (Gm.cells g (.slice A n c)) := ((Box.made _ _ _).alloc _).alloc _
 have b2 : Box (((w.alloc (.cells (Gm.cells g (.slice A n c)) 31)).alloc (.cells (Gm.qai ps).toArray 49)).alloc (.cells (Gm.cells qbx (.slice none 0 0)) 31)) (w.heap.size + 1) 49 (Gm.qai ps).toArray := (Box.qaq _ _ _ (by simp)).alloc _
 have b3 : Box (((w.alloc (.cells (Gm.cells g (.slice A n c)) 31)).alloc (.cells (Gm.qai ps).toArray 49)).alloc (.cells (Gm.cells qbx (.slice none 0 0)) 31)) (w.heap.size + 1 + 1) 31 (Gm.cells qbx (.slice none 0 0)) := Box.qaq _ _ _ (by simp)
 have hb0 : Below w.heap.size w (((w.alloc (.cells (Gm.cells g (.slice A n c)) 31)).alloc (.cells (Gm.qai ps).toArray 49)).alloc (.cells (Gm.cells qbx (.slice none 0 0)) 31)) := (qap w _ _).alloc (by simp <;> omega) _
 have co := qh (qiA g A n c _ hn (by have := hg.2.2.1; omega) ((hr.below hb0).wider hb0.size))
 have cm := fun X (hX : Below w.heap.size w X) => qh (qgW g A n c X hg hn ((hr.below hX).wider hX.size))
 have fr : (g.frame == 1048576) = false := by simpa using Int.ne_of_lt hf
 have e0 := Gm.qa1 g (.slice A n c)
 have hN := qh hn
 have B1 := qh b1
 have B2 := qh b2
 have B3 := qh b3
 have HB := qh hb0
 clear hn b1 b2 b3 hb0 hr
 refine (callsIn_wide (n := 10)).1 (callsIn_of_wp_marks Tryz.func91 rfl trivial (wpIn_wide.2 ?_) rfl)
 simp only [Tryz.ntmps91, List.size_toArray, List.length_cons, List.length_nil, Nat.reduceAdd, Nat.reduceSub, Array.replicate_succ, Array.replicate_zero, List.push_toArray, List.append_toArray, List.nil_append, List.cons_append]
 go_upto_block 0 with (first | (refine qaK rfl rfl ?_) | ((with_reducible refine qaF rfl rfl ?_); apply qaN.mk rfl; (with_reducible exact B1.out)) | ((with_reducible refine qaF rfl rfl ?_); apply qaN.mk rfl; (with_reducible exact D1.out)) | (go_at_call 123; ((with_reducible refine (co.out).mono ?_); rintro e w1 ⟨A1, c1, rfl, ho1, hb1⟩; have HB1 := qh ((HB.out.trans (hb1.mono HB.out.size)).alloc (by have := hb1.size; simp at this; omega) (.cells (Gm.cells g (.slice A1 n c1)) 31)); have H1 := qh (qgd (w := w) hN.out (qbE ho1 (by simp; omega))); have D1 := qh ((B1.out.below hb1 (by simp <;> omega)).alloc (.cells (Gm.cells g (.slice A1 n c1)) 31)); have D2 := qh ((B2.out.below hb1 (by simp <;> omega)).alloc (.cells (Gm.cells g (.slice A1 n c1)) 31)); have D3 := qh ((B3.out.below hb1 (by simp <;> omega)).alloc (.cells (Gm.cells g (.slice A1 n c1)) 31)); have s1 : w.heap.size + 1 + 1 < w1.heap.size := (by have := hb1.size; simp at this; omega); clear ho1 hb1)) | (refine qaL rfl rfl rfl rfl rfl rfl ?_) | (go_at_call 124; ((with_reducible refine ((cm _ HB1.out).out).mono ?_); rintro e w2 ⟨rfl, hb2⟩; have HB2 := qh (HB1.out.trans (hb2.mono HB1.out.size)); have H2 := qh (H1.out.call hb2); have E1 := (D1.out.below hb2 D1.out.lt).cell; have E2 := qh (D2.out.below hb2 D2.out.lt); have E3 := qh (D3.out.below hb2 D3.out.lt); clear hb2)) | (go_at_call 125; ((with_reducible refine (qh0 _ _).mono ?_); rintro e w3 ⟨rfl, rfl⟩)))
 have M0 : Mid w.heap.size w1.heap.size (w.heap.size + 1) (w.heap.size + 1 + 1) w2.heap.size ps w g (w2.alloc (.cells #[.pointer (some ⟨w1.heap.size, 0, none⟩)] 175)) :=
  ⟨H2.out.alloc _, E2.out.alloc _, E3.out.alloc _, Box.made _ _ _, HB2.out.alloc HB2.out.size _⟩
 generalize hW0 : w2.alloc (.cells #[.pointer (some ⟨w1.heap.size, 0, none⟩)] 175) = W0 at M0 ⊢
 generalize w2.heap.size = Bg at M0 ⊢
 generalize w1.heap.size = Bn at M0 s1 ⊢
 have MM0 := qh M0
 have fit0 : Fit (fun i => (g.ship i).on) g := ⟨hg.2.2.2.1, hg.way.qaa, hg.2.2.1, fun _ _ => rfl⟩
 have FIT := qh fit0
 have hfl0 : qel Bn Bg (fun i => (g.ship i).on) W0 := ⟨M0.fly.cell 0, fun k hk => M0.has.flags k hk⟩
 have HOK := qh hg
 clear hW0 M0 fit0 H1 D1 D2 D3 H2 E2 E3 HB2 HB1 E1 e0 fr co cm B1 B2 B3 HB hN hg
 refine (wpIn_wide (n := 10)).1 ?_
 refine wpIn_block ?_
 refine wpIn_rangeFunc_ownF (n := 10) (w := W0) rfl (by omega) (gf := 157) (lb := #[.pointer (some ⟨Bg, 0, none⟩)]) rfl trivial (enters_of Tryz.func157 (by kernel_rfl) rfl)
  (qeR (fun i => (g.ship i).on) Bn Bg _ W0 hfl0) qox (qoy (n := W0.heap.size)) (Below.refl _ _) (fun _ => rfl)
  (fun pre W => Mid w.heap.size Bn (w.heap.size + 1) (w.heap.size + 1 + 1) Bg ps w (over ps g pre) W)
  (fun _ _ _ => False)
  (fun pre W W' row h hgr hr => h.turned (Nat.le_refl _) hgr (fun r e => ⟨Nat.le_trans MM0.out.below.size (hr r e).1, (hr r e).2⟩))
  (fun _ _ _ _ _ hs _ _ => hs)
  MM0.out
  (fun x => { tmps := #[.agg (Gm.cells g (.slice A n c)), .agg (Gm.qai ps).toArray, .pointer (some ⟨w.heap.size, 0, none⟩), .pointer (some ⟨w.heap.size + 1, 0, none⟩), .pointer (some ⟨w.heap.size + 1 + 1, 0, none⟩), .int .i64 0,
   .pointer (some ⟨Bn, 0, none⟩), .int .i64 x.1, .pointer (some ⟨Bn, 2 + x.1 * 7, none⟩), undef,
   .agg (Gm.cells g (.slice A n c)), .agg (Gm.cells g (.slice A1 n c1)), .agg (Gm.cells g (.slice A n c)), .bool true, .bool false, undef,
   .pointer (some ⟨w.heap.size, 0, none⟩), .int .i64 g.frame, .bool false, undef, .func (.func 157) #[] #[.pointer (some ⟨Bg, 0, none⟩)], .int .i64 x.1, .pointer (some ⟨Bn, 2 + x.1 * 7, none⟩),
   undef, undef, undef, undef, undef, undef, undef, undef, undef, undef, undef, undef, undef, undef, undef, undef, undef], defers := [] }) ?assign ?body ?done ?stop
 case assign =>
  intro l x W K hK
  gi_wp2
  exact hK
 case body =>
  rintro l pre x W hM hlen
  have hfit := qlM (ps := ps) FIT.out pre
  generalize hX : over ps g pre = X at hM hfit
  have hsn : over ps g (pre ++ [x]) = qen ps X x.1 := by rw [qn8, hX]
  obtain ⟨k, hk, hon⟩ := x
  have hk8 : (k : Int) < 8 := by omega
  obtain ⟨pk, hpk⟩ : ∃ p, ps k = p := ⟨_, rfl⟩
  obtain ⟨px, py, pb⟩ := pk
  have hty := hp k hk
  rw [hpk] at hty
  obtain ⟨wx, wy, wp⟩ := hty
  dsimp only at wx wy wp
  have ch := fun Y => qh (qpI ⟨px, py, pb⟩ ⟨wx, wy, wp⟩ Y)
  have tx := Gf.qid wx
  have ty := Gf.qid wy
  have hstep := qnE ps X k (by rw [hfit.flags k hk]; exact hon) (hfit.qbZ k hk).2.2.2.2.2.1
  rw [hpk] at hstep
  simp only [Gm.In.cells, Gm.qno] at ch
  dsimp only at hstep
  generalize Gf.tame px = TX at ch tx hstep
  generalize Gf.tame py = TY at ch ty hstep
  have hin := hM.ins.cell
  have hil := hM.ins.lt
  have q0 : (Gm.qai ps).toArray[k * 3]? = some (.int .i8 px) := (Gm.qbe ps k 0 hk (by omega)).trans (by rw [hpk]; rfl)
  have q1 : (Gm.qai ps).toArray[k * 3 + 1]? = some (.int .i8 py) := (Gm.qbe ps k 1 hk (by omega)).trans (by rw [hpk]; rfl)
  have q2 : (Gm.qai ps).toArray[k * 3 + 2]? = some (.int .u8 pb) := (Gm.qbe ps k 2 hk (by omega)).trans (by rw [hpk]; rfl)
  have HM := qh hM
  have HX := qh hsn
  have HFIT := qh hfit
  have HST := qh hstep
  clear hM hsn hfit hstep hX hlen
  have hbB : w.heap.size <= Bn := by omega
  have hWn : Bn < W.heap.size := HM.out.has.lt
  have hty2 := (HFIT.out.qbZ k hk).ty
  have hcool : 0 <= ((qcc X k (qbK (X.ship k) TX TY)).ship k).cool /\ ((qcc X k (qbK (X.ship k) TX TY)).ship k).cool <= 10 := by
   rw [show (qcc X k (qbK (X.ship k) TX TY)).ship k = qbK (X.ship k) TX TY from Gm.upd_same _ _ _]
   have := HFIT.out.qbZ k hk
   exact ⟨this.2.2.2.2.2.1, this.2.2.2.2.2.2.1⟩
  have HC := qh hcool
  have HTY := qh hty2
  clear hcool hty2
  gi_wp2_with (first | (gi_at_call 126; ((with_reducible refine (CallsIn.inRound l (callsIn_wide.2 (ch _).out)).mono ?_); rintro e v1 ⟨rfl, hb1⟩; have H1 := qh ((HM.out.has.call hb1).alloc (.cells #[.int .i8 TX, .int .i8 TY, .int .u8 pb] 48)); have K1 := qh (((Keep.refl hbB W).call hb1).alloc (.cells #[.int .i8 TX, .int .i8 TY, .int .u8 pb] 48)); have v1n : v1.heap.size ≠ Bn := (by have := hb1.size; omega); clear hb1)) | (refine ⟨trivial, ?_⟩; gi_at_call 126; ((with_reducible refine (CallsIn.inRound l (callsIn_wide.2 (ch _).out)).mono ?_); rintro e v1 ⟨rfl, hb1⟩; have H1 := qh ((HM.out.has.call hb1).alloc (.cells #[.int .i8 TX, .int .i8 TY, .int .u8 pb] 48)); have K1 := qh (((Keep.refl hbB W).call hb1).alloc (.cells #[.int .i8 TX, .int .i8 TY, .int .u8 pb] 48)); have v1n : v1.heap.size ≠ Bn := (by have := hb1.size; omega); clear hb1)) | (gi_at_call 127; ((with_reducible refine (CallsIn.inRound l (callsIn_wide.2 (qi8 X w.heap.size Bn k TX TY pb _ hbB hk H1.out HTY.out (by omega) (by omega)))).mono ?_); rintro e v2 ⟨⟨r2, rfl⟩, hH2, hK2⟩; have H2 := qh hH2; have K2 := qh (K1.out.trans hK2); have D9 := (Box.made v1 48 #[.int .i8 TX, .int .i8 TY, .int .u8 pb]).keep hK2 v1n (by decide); have d9 := D9.cell; have l9 := D9.lt; clear hH2 hK2 D9)) | (refine ⟨trivial, ?_⟩; gi_at_call 127; ((with_reducible refine (CallsIn.inRound l (callsIn_wide.2 (qi8 X w.heap.size Bn k TX TY pb _ hbB hk H1.out HTY.out (by omega) (by omega)))).mono ?_); rintro e v2 ⟨⟨r2, rfl⟩, hH2, hK2⟩; have H2 := qh hH2; have K2 := qh (K1.out.trans hK2); have D9 := (Box.made v1 48 #[.int .i8 TX, .int .i8 TY, .int .u8 pb]).keep hK2 v1n (by decide); have d9 := D9.cell; have l9 := D9.lt; clear hH2 hK2 D9)) | (gi_at_call 128; ((with_reducible refine (CallsIn.inRound l (callsIn_wide.2 (qjc (qcc X k (qbK (X.ship k) TX TY)) w.heap.size Bn k TX TY pb _ hbB hk H2.out HC.out (by omega) (by omega) wp))).mono ?_); rintro e v3 ⟨⟨r3, rfl⟩, hH3, hK3⟩; rw [HST.out] at hH3; have H3 := qh hH3; have K3 := qh (K2.out.trans hK3); clear hH3 hK3)) | (refine ⟨trivial, ?_⟩; gi_at_call 128; ((with_reducible refine (CallsIn.inRound l (callsIn_wide.2 (qjc (qcc X k (qbK (X.ship k) TX TY)) w.heap.size Bn k TX TY pb _ hbB hk H2.out HC.out (by omega) (by omega) wp))).mono ?_); rintro e v3 ⟨⟨r3, rfl⟩, hH3, hK3⟩; rw [HST.out] at hH3; have H3 := qh hH3; have K3 := qh (K2.out.trans hK3); clear hH3 hK3)))
  have M3 : Mid w.heap.size Bn (w.heap.size + 1) (w.heap.size + 1 + 1) Bg ps w (qen ps X k) v3 := HM.out.kept (Nat.le_refl _) (by omega) H3.out K3.out
  have fit3 := qgp (ps := ps) HFIT.out hk
  obtain ⟨A9, c9, hB9, _⟩ := HM.out.has
  refine ⟨K3.out.others hB9, fun _ => ⟨M3.fly.cell 0, fun i hi => (M3.has.flags i hi).trans (by rw [fit3.flags i hi])⟩, ?_⟩
  show Mid _ _ _ _ _ _ _ (over ps g (pre ++ [⟨k, hk, hon⟩])) v3
  rw [HX.out]
  exact M3
 case done =>
  rintro D xs W hD rfl hM hK
  have e1 := qps (on := fun i => (g.ship i).on) ps g (fun _ _ => rfl)
  have hM : Mid w.heap.size Bn (w.heap.size + 1) (w.heap.size + 1 + 1) Bg ps w (over ps g (qc0 (fun i => (g.ship i).on) 8 0)) W := hM
  have hfit := qlM (ps := ps) FIT.out (qc0 (fun i => (g.ship i).on) 8 0)
  rw [e1] at hM hfit
  obtain ⟨F, hF⟩ : ∃ F, F = (Gm.ph1 ps g 8).1 := ⟨_, rfl⟩
  obtain ⟨l, hl⟩ : ∃ l, l = (Gm.ph1 ps g 8).2 := ⟨_, rfl⟩
  rw [<- hF, <- hl] at hM hfit
  obtain ⟨fin, hfin⟩ : ∃ fin, fin = Gm.ph2 ⟨g.dice, F, []⟩ l := ⟨_, rfl⟩
  have hstep : Gm.step ps g = ⟨g.frame + 1, fin.dice, fin.ship, fin.left⟩ := by rw [hfin, hF, hl]; rfl
  have ck := qh (qpA { g with ship := F, qaa := l } w.heap.size Bn W (by omega) hM.has hfit.qaa hfit.qbZ hd hfit.len fin hfin)
  have hmf : ∀ (fn : Fn) (first cap : Array Value) (w : World), (Instr.makeFunc fn first cap).run Tryz.prog w = .ok (.func fn first cap) w := fun _ _ _ _ => rfl
  have hwrap : IntKind.i64.wrap (g.frame + 1) = g.frame + 1 := by rw [IntKind.wrap_i64]; have := HOK.out.1; omega
  have hDw : w.heap.size <= D := Nat.le_trans MM0.out.below.size hD
  have HMM := qh hM
  obtain ⟨A9, c9, hB9, _⟩ := hM.has
  have HB9 := qh hB9
  clear hB9
  have HK := qh hK
  have HST := qh hstep
  clear hM hfit hF hl hfin hstep e1 hK
  go_wp2_with (first | (go_at_call 129; ((with_reducible refine (ck.out).mono ?_); rintro e w4 ⟨rfl, h4, k4⟩; obtain ⟨A4, c4, B4, O4⟩ := h4; have ne4 : w.heap.size + 1 + 1 ≠ Bn := (by omega); have R4 := HMM.out.res.keep k4 ne4 (by decide); have b4 := B4.cell; have f4 := B4.free; have e4 := Gm.qa1 { g with dice := fin.dice, ship := fin.ship, qaa := fin.left } (.slice A4 fin.left.length c4); have G5 := qh (qkf B4 (g.frame + 1)); have R5 := qh (R4.far (p := ⟨Bn, 0, none⟩) ne4 (.int .i64 (g.frame + 1))); have nO := B4.qaM O4 (by decide); have O5 := qh (ownsRow_setCell_other (a := ⟨Bn, 0, none⟩) O4 nO (.int .i64 (g.frame + 1))); have K5 := qh ((HMM.out.below.trans (k4.to HMM.out.below.size)).setCell (p := ⟨Bn, 0, none⟩) (by show w.heap.size <= Bn; omega) (.int .i64 (g.frame + 1))); have T5 := qh (((k4.others HB9.out).trans (KeepsOthers.setCell w4 ⟨Bn, 0, none⟩ (.int .i64 (g.frame + 1)))).same D _ HK.out rfl); clear B4 O4 R4 k4 nO)) | ((with_reducible refine qaF rfl rfl ?_); apply qaN.mk rfl; exact G5.out) | ((with_reducible refine qbq rfl rfl ?_); apply qbm.mk rfl rfl rfl; exact R5.out))
  have hDr : D ≠ w.heap.size + 1 + 1 := fun e => by
   have h1 := T5.out
   rw [e, R5.out.is] at h1
   injection h1 with h1
   cases h1
  have T6 : ((w4.setCell ⟨Bn, 0, none⟩ (.int .i64 (g.frame + 1))).setRow (w.heap.size + 1 + 1) (Gm.cells { g with frame := g.frame + 1, dice := fin.dice, ship := fin.ship, qaa := fin.left } (.slice A4 fin.left.length c4))).heap[D]? = some (.deferred (some [])) :=
   (setRow_other _ _ D _ hDr).trans T5.out
  refine ⟨by simp, .inl ⟨_, _, rfl, run_takeDeferred T6, ?_⟩⟩
  refine ⟨.tuple #[.agg (Gm.cells { g with frame := g.frame + 1, dice := fin.dice, ship := fin.ship, qaa := fin.left } (.slice A4 fin.left.length c4)), .int .i64 0], ?_, ?_⟩
  · exact results_cell_tmp (p := 4) (q := 5) rfl _ _ _ _ (Gm.cells { g with frame := g.frame + 1, dice := fin.dice, ship := fin.ship, qaa := fin.left } (.slice A4 fin.left.length c4)) _ rfl ((Box.row R5.out _).turned (grownBy_putObj' _ D (.deferred none)) (fun r e => by cases e; exact ⟨_, T6, rfl⟩)) Tryz.underlying31 rfl qbh
  · rw [HST.out]
    refine ⟨A4, c4, rfl, ?_, ?_, New6.owned O5.out⟩
    · exact Lies.owned (ownsRow_putObj (qbi O5.out (R5.out.qaM O5.out (by decide)) _) _ T6 rfl)
    · exact (Below.setRow' K5.out (by omega) _).grown (grownBy_putObj' _ D (.deferred none)) (by have := (Array.getElem?_eq_some_iff.1 T6).1; omega) (fun k e => by cases e; exact hDw)
 case stop =>
  rintro D c' pre W _ _ h _
  exact h.elim
end Go.Proofs.YtmiopphcfdlneaaGreat
namespace Go.Proofs.YtmiopphcfdlneaaGreat
open Go.RowKit
def tagV (v : Value) : Nat := match v with | .int .i64 _ => 1 | .int .i32 _ => 2 | _ => 0
def qge : List Nat := [1, 0] ++ ([0, 2, 2, 2, 2, 1, 1] ++ ([0, 2, 2, 2, 2, 1, 1] ++ ([0, 2, 2, 2, 2, 1, 1] ++ ([0, 2, 2, 2, 2, 1, 1] ++ ([0, 2, 2, 2, 2, 1, 1] ++ ([0, 2, 2, 2, 2, 1, 1] ++ ([0, 2, 2, 2, 2, 1, 1] ++ [0, 2, 2, 2, 2, 1, 1]))))))) ++ [0]
theorem qjX (g : Gm.G) (A : Option Addr) (n c : Nat) (o : Nat) : ((Gm.cells g (.slice A n c))[o]?).map tagV = qge[o]? := by
 rw [show (Gm.cells g (.slice A n c))[o]? = (([Value.int .i64 g.frame, Value.int .u64 g.dice] ++ Gm.qbd g.ship ++ [Value.slice A n c])[o]?) from by unfold Gm.cells; simp]
 rw [<- List.getElem?_map]
 rfl
theorem qgQ : ∀ o, o < 59 -> ¬ (qge[o]? = some 1 /\ qge[o + 1]? = some 2) := by decide
theorem Lies.qlO {w : World} {B BG n m : Nat} {A A' : Option Addr} {c : Nat} {l : List Gm.Shot} {g : Gm.G} (h : Lies w B 6 A n (Gm.qad l)) (hn : n = l.length) (hB : Box w BG 31 (Gm.cells g (.slice A' m c))) (h0 : n ≠ 0) (ad : Addr) (e : A = some ad) : ad.block ≠ BG := by
 intro eb
 subst hn
 have hlt : 0 < l.length := by omega
 have hc := h.cell ad e h0
 have e0 := hc 0 (.int .i64 l[0].owner) (by have := Gm.qbz l 0 0 hlt (by omega); simpa [Gm.Shot.cells] using this)
 have e1 := hc 1 (.int .i32 l[0].x) (by have := Gm.qbz l 0 1 hlt (by omega); simpa [Gm.Shot.cells] using this)
 rw [show ad.add 0 = ad from rfl] at e0
 rw [show ad.add 1 = ⟨ad.block, ad.off + 1, none⟩ from rfl] at e1
 rw [eb, hB.cell] at e1
 have e0' : (Gm.cells g (.slice A' m c))[ad.off]? = some (.int .i64 l[0].owner) := by
  unfold World.cell? at e0
  rw [eb, hB.is] at e0
  dsimp only at e0
  split at e0
  · cases e0
  · exact e0
 have t0 := qjX g A' m c ad.off
 have t1 := qjX g A' m c (ad.off + 1)
 rw [e0'] at t0
 rw [e1] at t1
 have hlt' : ad.off < 59 := by have := (Array.getElem?_eq_some_iff.1 e0').1; rwa [Gm.qaf] at this
 exact qgQ _ hlt' ⟨t0.symm, t1.symm⟩
theorem Lies.qlY {w : World} {n BG m : Nat} {A A' : Option Addr} {c : Nat} {l : List Gm.Shot} {g : Gm.G} (h : Lies w w.heap.size 6 A n (Gm.qad l)) (hn : n = l.length) (hB : Box w BG 31 (Gm.cells g (.slice A' m c))) (cs : Array Value) : Lies (w.setRow BG cs) (w.setRow BG cs).heap.size 6 A n (Gm.qad l) := by
 refine ⟨h.len, fun hn => by obtain ⟨ad, e, hb⟩ := h.start hn; exact ⟨ad, e, by rw [setRow_size]; exact hb⟩, fun ad e h0 j u hu => ?_⟩
 have hne := h.qlO hn hB h0 ad e
 rw [World.cell?_of_block (w := w) (by rw [add_block]; exact setRow_other w BG _ cs hne)]
 exact h.cell ad e h0 j u hu
theorem Lies.call {w w' : World} {size n : Nat} {A : Option Addr} {xs : List Value} (h : Lies w w.heap.size size A n xs) (hb : Below w.heap.size w w') : Lies w' w'.heap.size size A n xs :=
 (h.below hb).wider hb.size
end Go.Proofs.YtmiopphcfdlneaaGreat
namespace Gm
open Go
def bit (m : Int) (k : Nat) : Bool := bits .and .i64 (m / 2 ^ k) 1 == 1
structure qq7 (m : Int) (k : Nat) (g : G) : Prop where
 ok : Gm.ok g
 dice : 0 <= g.dice /\ g.dice <= 18446744073709551615
 frame : g.frame = 0
 qaa : g.qaa = []
 on : ∀ j, (g.ship j).on = (decide (j < k) && bit m j)
theorem qow (m d : Int) (hd : 0 <= d /\ d <= 18446744073709551615) : qq7 m 0 (new d) := by
 refine ⟨⟨by show (0 : Int) <= 0; decide, by show (0 : Int) <= 1048576; decide, by show 0 <= 32; omega, fun i hi => ?_, fun i h => absurd h (by show ¬ i < 0; omega)⟩, hd, rfl, rfl, fun j => by simp [new, Ship.none]⟩
 exact (show qaX Ship.none from ⟨.inr rfl, by unfold inF Ship.none; decide, by unfold inF Ship.none; decide, by unfold slow Ship.none; decide, by unfold slow Ship.none; decide, by decide, by decide, by decide, by decide⟩)
theorem qgU (p : In) (n : Nat) (s : Ship) : (moved p n s).on = s.on /\ (moved p n s).score = s.score := by
 unfold moved; split
 · rename_i h; exact ⟨h.symm, rfl⟩
 · exact ⟨rfl, rfl⟩
theorem qjH (ps : Nat -> In) (g : G) : ∀ k j, ((ph1 ps g k).1 j).on = (g.ship j).on /\ ((ph1 ps g k).1 j).score = (g.ship j).score
 | 0, _ => ⟨rfl, rfl⟩
 | k + 1, j => by
  have ih := qjH ps g k
  show ((upd (ph1 ps g k).1 k _ j)).on = _ /\ (upd (ph1 ps g k).1 k _ j).score = _
  unfold upd
  split
  · rename_i e; subst e
    exact ⟨(qgU _ _ _).1.trans (ih j).1, (qgU _ _ _).2.trans (ih j).2⟩
  · exact ih j
def qfb (f f' : Nat -> Ship) : Prop := ∀ j, j < 8 -> (f' j).on = (f j).on /\ (f j).score <= (f' j).score
theorem qfb.refl (f : Nat -> Ship) : qfb f f := fun _ _ => ⟨rfl, Int.le_refl _⟩
theorem qfb.trans {f g h : Nat -> Ship} (h1 : qfb f g) (h2 : qfb g h) : qfb f h := fun j hj => ⟨(h2 j hj).1.trans (h1 j hj).1, Int.le_trans (h1 j hj).2 (h2 j hj).2⟩
theorem qnd {d : Int} {f : Nat -> Ship} {k : Nat} (hon : (f k).on = true) : qfb f (anew d f k) := fun j hj => by
 unfold anew upd
 split
 · rename_i e; subst e; exact ⟨hon.symm, Int.le_refl _⟩
 · exact ⟨rfl, Int.le_refl _⟩
theorem qmJ {f : Nat -> Ship} {o : Nat} (h : ∀ i, i < 8 -> qaX (f i)) : qfb f (more f o) := fun j hj => by
 unfold more
 split
 · unfold upd
   split
   · rename_i e; subst e
     have := (h j hj).2.2.2.2.2.2.2.2
     exact ⟨rfl, by dsimp only; omega⟩
   · exact ⟨rfl, Int.le_refl _⟩
 · exact ⟨rfl, Int.le_refl _⟩
theorem qkw {st : St} {s : Shot} (h : Way2 st) : qfb st.ship (qeg st s).ship := by
 unfold qeg
 split
 · exact qfb.refl _
 · split
   · exact qfb.refl _
   · rename_i hh
     rcases qor st.ship (fly s) with e | ⟨k, e, hk, h1⟩
     · rw [e] at hh; exact absurd (by decide) hh
     · rw [e]
       have hon : (st.ship k).on = true := by unfold qcD at h1; simp at h1; exact h1.1
       exact (qnd (d := st.dice) (by simpa using hon)).trans (qmJ (qdX h.qbZ (by simpa using hk)))
theorem qjG {st : St} {l : List Shot} (h : Way2 st) (hl : ∀ t ∈ l, qa7 t) : ∀ j, j <= l.length -> qfb st.ship (ph2 st (l.take j)).ship
 | 0, _ => by simpa [ph2] using qfb.refl st.ship
 | j + 1, hj => by
  have ih := qjG h hl j (by omega)
  rw [qf8 st l j (by omega)]
  exact ih.trans (qkw (qgN h hl j (by omega)).1)
structure Good (g : G) : Prop where
 ok : Gm.ok g
 dice : 0 <= g.dice /\ g.dice <= 18446744073709551615
theorem qns {ps : Nat -> In} {g : G} (h : Good g) (hf : g.frame < 1048576) : Good (step ps g) /\ (step ps g).frame = g.frame + 1 /\ qfb g.ship (step ps g).ship := by
 have w8 := qiz (ps := ps) h.ok 8 (by omega)
 have st0 : Way2 ⟨g.dice, (ph1 ps g 8).1, []⟩ := ⟨w8.qbZ, fun t ht => (by cases ht), h.dice⟩
 have hw := qgN st0 w8.qaa (ph1 ps g 8).2.length (Nat.le_refl _)
 have hr := qjG st0 w8.qaa (ph1 ps g 8).2.length (Nat.le_refl _)
 rw [List.take_length] at hw hr
 have hok := h.ok
 refine ⟨⟨⟨?_, ?_, ?_, hw.1.qbZ, fun i hi => hw.1.left _ (List.getElem_mem hi)⟩, hw.1.dice⟩, rfl, fun j hj => ?_⟩
 · show 0 <= g.frame + 1; have := hok.1; omega
 · show g.frame + 1 <= 1048576; omega
 · have h1 := hw.2
   have h2 := w8.len
   simp only [List.length_nil, Nat.zero_add] at h1
   exact Nat.le_trans h1 h2
 · have h1 := qjH ps g 8 j
   have h2 := hr j hj
   exact ⟨h2.1.trans h1.1, by rw [<- h1.2]; exact h2.2⟩
end Gm
namespace Go.Proofs.YtmiopphcfdlneaaGreat
open Go.RowKit Go.Shelf
theorem Fd.qnq {r : Ros.R} {k : Nat} {p : Int} (h : Ros.qbS r k p) : Ros.Ok (Ros.take r k p) := by
 obtain ⟨⟨⟨⟨hok, hv⟩, h0, h8⟩, hp, ho⟩, hpk, hgk⟩ := h
 have hk : k < 8 := by omega
 obtain ⟨h1, h2, h3⟩ := Ros.qgP.1 hok
 have hof := Ros.qgb hok hp.1 hp.2
 have hnone : ∀ j, j < 8 -> r.peer j ≠ p := by
  rcases hof with ⟨_, h⟩ | ⟨j, _, e, _⟩
  · exact h
  · rw [ho] at e; omega
 have hgk' : r.gen k ≠ 60000 := hgk
 refine Ros.qgP.2 ⟨?_, fun j hj => ?_, fun i j hij hj => ?_⟩
 · show 0 <= r.version + 1 /\ r.version + 1 <= 1073741824
   omega
 · by_cases e : j = k
   · subst e
     have hs := (h2 j hj).1
     show (0 <= Ros.upd r.gen j _ j /\ Ros.upd r.gen j _ j <= 60000) /\ (Ros.upd r.peer j p j = -1 \/ ((0 <= Ros.upd r.peer j p j /\ Ros.upd r.peer j p j < 12) /\ 0 < Ros.upd r.gen j _ j))
     rw [Ros.upd_same, Ros.upd_same]
     exact ⟨by omega, .inr ⟨hp, by omega⟩⟩
   · show (0 <= Ros.upd r.gen k _ j /\ Ros.upd r.gen k _ j <= 60000) /\ (Ros.upd r.peer k p j = -1 \/ ((0 <= Ros.upd r.peer k p j /\ Ros.upd r.peer k p j < 12) /\ 0 < Ros.upd r.gen k _ j))
     rw [Ros.qam _ _ e, Ros.qam _ _ e]
     exact h2 j hj
 · show Ros.upd r.peer k p i = -1 \/ Ros.upd r.peer k p i ≠ Ros.upd r.peer k p j
   by_cases e : i = k
   · subst e
     rw [Ros.upd_same, Ros.qam _ _ (by omega)]
     exact .inr (fun e => hnone j hj e.symm)
   · rw [Ros.qam _ _ e]
     by_cases e' : j = k
     · subst e'
       rw [Ros.upd_same]
       exact .inr (hnone i (by omega))
     · rw [Ros.qam _ _ e']
       exact h3 i j hij hj
theorem Fd.qov {r : Ros.R} {k : Nat} (h : Ros.qck r k) : Ros.Ok (Ros.give r k) := by
 obtain ⟨⟨⟨hok, hv⟩, h0, h8⟩, hp⟩ := h
 have hk : k < 8 := by omega
 obtain ⟨h1, h2, h3⟩ := Ros.qgP.1 hok
 refine Ros.qgP.2 ⟨?_, fun j hj => ?_, fun i j hij hj => ?_⟩
 · show 0 <= r.version + 1 /\ r.version + 1 <= 1073741824
   omega
 · show (0 <= r.gen j /\ r.gen j <= 60000) /\ (Ros.upd r.peer k (-1) j = -1 \/ ((0 <= Ros.upd r.peer k (-1) j /\ Ros.upd r.peer k (-1) j < 12) /\ 0 < r.gen j))
   by_cases e : j = k
   · subst e
     rw [Ros.upd_same]
     exact ⟨(h2 j hj).1, .inl rfl⟩
   · rw [Ros.qam _ _ e]
     exact h2 j hj
 · show Ros.upd r.peer k (-1) i = -1 \/ Ros.upd r.peer k (-1) i ≠ Ros.upd r.peer k (-1) j
   by_cases e : i = k
   · subst e
     rw [Ros.upd_same]
     exact .inl rfl
   · rw [Ros.qam _ _ e]
     by_cases e' : j = k
     · subst e'
       rw [Ros.upd_same]
       by_cases e2 : r.peer i = -1
       · exact .inl e2
       · exact .inr e2
     · rw [Ros.qam _ _ e']
       exact h3 i j hij hj
namespace Fd
structure S where
 g : Gm.G
 r : Ros.R
structure Fine (s : S) : Prop where
 ok : Im.Ok s.g s.r
 dice : 0 <= s.g.dice /\ s.g.dice <= 18446744073709551615
theorem Fine.good {s : S} (h : Fine s) : Gm.Good s.g := ⟨h.ok.1, h.dice⟩
def qcK (s : S) (v : En.Ev) : Prop :=
 (v.kind = 1 /\ Ros.qbS s.r v.slot v.peer /\ v.gen = s.r.gen v.slot.toNat + 1) \/ (v.kind = 2 /\ Ros.qck s.r v.slot /\ s.r.peer v.slot.toNat = v.peer /\ s.r.gen v.slot.toNat = v.gen)
instance (s : S) (v : En.Ev) : Decidable (qcK s v) := by unfold qcK; infer_instance
def after (s : S) (v : En.Ev) : S := if v.kind = 1 then ⟨Gm.spawn s.g v.slot.toNat, Ros.take s.r v.slot.toNat v.peer⟩ else ⟨Gm.remove s.g v.slot.toNat, Ros.give s.r v.slot.toNat⟩
def change (s : S) (v : En.Ev) : Option S := if qcK s v then some (after s v) else none
def changes : S -> List En.Ev -> Option S
 | s, [] => some s
 | s, v :: l => (change s v).bind fun t => changes t l
def Idle (r : Ros.R) (ps : Nat -> Gm.In) : Prop := ∀ k, k < 8 -> r.peer k < 0 -> En.zero (ps k) = true
instance (r : Ros.R) (ps : Nat -> Gm.In) : Decidable (Idle r ps) := by unfold Idle; infer_instance
def May (s : S) (e : En.E) : Prop := Im.Ok s.g s.r /\ En.Ok e /\ e.frame = s.g.frame
open Classical in
noncomputable def apply (s : S) (e : En.E) : Option S := if May s e then (changes s e.evs).bind fun t => if Idle t.r e.inp then some ⟨Gm.step e.inp t.g, t.r⟩ else none else none
def start (d : Int) : S := ⟨Gm.new d, Ros.new⟩
theorem qex (s : S) : changes s [] = some s := rfl
theorem qdW (s : S) (v : En.Ev) (l : List En.Ev) : changes s (v :: l) = (change s v).bind fun t => changes t l := rfl
theorem qdg (l m : List En.Ev) : ∀ s, changes s (l ++ m) = (changes s l).bind fun t => changes t m := by
 induction l with
 | nil => intro s; rfl
 | cons v l ih =>
  intro s
  show (change s v).bind (fun t => changes t (l ++ m)) = ((change s v).bind fun t => changes t l).bind fun t => changes t m
  cases h : change s v with
  | none => rfl
  | some t => exact ih t
theorem qcv {s : S} {v : En.Ev} (h : qcK s v) : change s v = some (after s v) := if_pos h
theorem qe1 {s : S} {v : En.Ev} (h : ¬ qcK s v) : change s v = none := if_neg h
theorem qew (s : S) (v : En.Ev) : changes s [v] = change s v := by
 show (change s v).bind (fun t => some t) = change s v
 cases change s v <;> rfl
theorem qie {r : Ros.R} {v : En.Ev} (h : Ros.qbS r v.slot v.peer) : ∃ k : Nat, k < 8 /\ v.slot = k /\ v.slot.toNat = k /\ r.peer k = -1 /\ Ros.qbS r k v.peer /\ 0 <= v.peer := by
 obtain ⟨⟨⟨⟨hok, hv⟩, h0, h8⟩, hp, ho⟩, hpk, hgk⟩ := id h
 have e : v.slot = (v.slot.toNat : Int) := by omega
 exact ⟨v.slot.toNat, by omega, e, rfl, hpk, by rw [<- e]; exact h, hp.1⟩
theorem qiN {r : Ros.R} {v : En.Ev} (h : Ros.qck r v.slot) : ∃ k : Nat, k < 8 /\ v.slot = k /\ v.slot.toNat = k /\ 0 <= r.peer k /\ Ros.qck r k := by
 obtain ⟨⟨⟨hok, hv⟩, h0, h8⟩, hp⟩ := id h
 have e : v.slot = (v.slot.toNat : Int) := by omega
 have hs := hok.seat v.slot.toNat (by omega)
 refine ⟨v.slot.toNat, by omega, e, rfl, ?_, by rw [<- e]; exact h⟩
 rcases hs.2 with h1 | h1
 · exact absurd h1 hp
 · exact h1.1.1
theorem qnI : Gm.qaX Gm.Ship.none := ⟨.inr rfl, by unfold Gm.inF Gm.Ship.none; decide, by unfold Gm.inF Gm.Ship.none; decide, by unfold Gm.slow Gm.Ship.none; decide, by unfold Gm.slow Gm.Ship.none; decide, by decide, by decide, by decide, by decide⟩
theorem qo6 {g : Gm.G} (h : Gm.ok g) (k : Nat) : Gm.ok (Gm.spawn g k) := by
 have hp := Gm.qf7 g.dice
 refine ⟨h.1, h.2.1, h.2.2.1, fun i hi => ?_, h.2.2.2.2⟩
 show Gm.qaX (Gm.upd _ _ _ _)
 unfold Gm.upd
 split
 · exact ⟨.inl rfl, hp.1, hp.2.1, by unfold Gm.slow; dsimp only; omega, by unfold Gm.slow; dsimp only; omega, by dsimp only; omega, by dsimp only; omega, by dsimp only; omega, by dsimp only; omega⟩
 · exact h.2.2.2.1 i hi
theorem qnY {g : Gm.G} (h : Gm.ok g) (k : Nat) : Gm.ok (Gm.remove g k) := by
 refine ⟨h.1, h.2.1, Nat.le_trans (List.length_filter_le _ _) h.2.2.1, fun i hi => ?_, fun i hi => ?_⟩
 · show Gm.qaX (Gm.upd _ _ _ _)
   unfold Gm.upd
   split
   · exact qnI
   · exact h.2.2.2.1 i hi
 · have hm := (List.mem_filter.1 (List.getElem_mem hi)).1
   obtain ⟨j, hj, e⟩ := List.getElem_of_mem hm
   rw [<- e]
   exact h.2.2.2.2 j hj
theorem Fine.after {s : S} {v : En.Ev} (h : Fine s) (hv : qcK s v) : Fine (Fd.after s v) /\ (Fd.after s v).g.frame = s.g.frame := by
 rcases hv with ⟨hk, ht, hg⟩ | ⟨hk, ht, hp, hg⟩
 · obtain ⟨k, hk8, e, e', hpk, ht', hp0⟩ := qie ht
   unfold Fd.after
   rw [if_pos hk, e']
   refine ⟨⟨⟨qo6 h.ok.1 k, qnq ht', fun j hj => ?_⟩, (Gm.qf7 s.g.dice).2.2⟩, rfl⟩
   show (Gm.upd s.g.ship k _ j).on = decide (0 <= Ros.upd s.r.peer k v.peer j)
   unfold Gm.upd Ros.upd
   by_cases ej : j = k
   · rw [if_pos ej, if_pos ej]; exact (decide_eq_true hp0).symm
   · rw [if_neg ej, if_neg ej]; exact h.ok.2.2 j hj
 · obtain ⟨k, hk8, e, e', hpk, ht'⟩ := qiN ht
   unfold Fd.after
   rw [if_neg (by omega), e']
   refine ⟨⟨⟨qnY h.ok.1 k, qov ht', fun j hj => ?_⟩, h.dice⟩, rfl⟩
   show (Gm.upd s.g.ship k _ j).on = decide (0 <= Ros.upd s.r.peer k (-1) j)
   unfold Gm.upd Ros.upd
   by_cases ej : j = k
   · rw [if_pos ej, if_pos ej]; rfl
   · rw [if_neg ej, if_neg ej]; exact h.ok.2.2 j hj
theorem Fine.changes {l : List En.Ev} : ∀ {s t : S}, Fine s -> Fd.changes s l = some t -> Fine t /\ t.g.frame = s.g.frame := by
 induction l with
 | nil => intro s t h e; injection e with e; subst e; exact ⟨h, rfl⟩
 | cons v l ih =>
  intro s t h e
  rw [qdW] at e
  by_cases hv : qcK s v
  · rw [qcv hv] at e
    obtain ⟨h1, h2⟩ := h.after hv
    obtain ⟨h3, h4⟩ := ih h1 e
    exact ⟨h3, h4.trans h2⟩
  · rw [qe1 hv] at e; cases e
theorem Fine.step {s : S} (h : Fine s) (ps : Nat -> Gm.In) (hf : s.g.frame < 1048576) : Fine ⟨Gm.step ps s.g, s.r⟩ /\ (Gm.step ps s.g).frame = s.g.frame + 1 := by
 obtain ⟨h1, h2, h3⟩ := Gm.qns (ps := ps) h.good hf
 exact ⟨⟨⟨h1.ok, h.ok.2.1, fun k hk => (h3 k hk).1.trans (h.ok.2.2 k hk)⟩, h1.dice⟩, h2⟩
theorem qpS {s : S} {e : En.E} (h : ¬ May s e) : apply s e = none := by unfold apply; rw [if_neg h]
theorem qcG {s : S} {e : En.E} (h : May s e) : apply s e = (Fd.changes s e.evs).bind fun t => if Idle t.r e.inp then some ⟨Gm.step e.inp t.g, t.r⟩ else none := by unfold apply; rw [if_pos h]
theorem qcw {s u : S} {e : En.E} (h : apply s e = some u) : May s e /\ ∃ t, Fd.changes s e.evs = some t /\ Idle t.r e.inp /\ u = ⟨Gm.step e.inp t.g, t.r⟩ := by
 by_cases hm : May s e
 · rw [qcG hm] at h
   cases hc : Fd.changes s e.evs with
   | none => rw [hc] at h; cases h
   | some t =>
    rw [hc] at h
    by_cases hi : Idle t.r e.inp
    · rw [Option.bind_some, if_pos hi] at h
      injection h with h
      exact ⟨hm, t, rfl, hi, h.symm⟩
    · rw [Option.bind_some, if_neg hi] at h; cases h
 · rw [qpS hm] at h; cases h
theorem Fine.apply {s u : S} {e : En.E} (hs : Fine s) (h : Fd.apply s e = some u) : Fine u /\ u.g.frame = s.g.frame + 1 /\ e.frame = s.g.frame := by
 obtain ⟨hm, t, hc, hi, rfl⟩ := qcw h
 obtain ⟨h1, h2⟩ := hs.changes hc
 have hf : t.g.frame < 1048576 := by have := hm.2.1.frame; have := hm.2.2; omega
 obtain ⟨h3, h4⟩ := h1.step e.inp hf
 exact ⟨h3, h4.trans (by rw [h2]), hm.2.2⟩
theorem qhJ {d : Int} (hd : 0 <= d /\ d <= 18446744073709551615) : Fine (start d) := by
 have h := Gm.qow 0 d hd
 refine ⟨⟨h.ok, ?_, fun k hk => ?_⟩, h.dice⟩
 · show Ros.Ok Ros.new; decide +kernel
 · rfl
end Fd
end Go.Proofs.YtmiopphcfdlneaaGreat
namespace Go.Proofs.YtmiopphcfdlneaaGreat.Rg
open Go.RowKit
def first : List Fd.S -> Int
 | [] => 0
 | s :: _ => s.g.frame
def last (M : List Fd.S) : Int := first M + M.length - 1
structure Ok (M : List Fd.S) : Prop where
 some : M ≠ []
 few : M.length <= 9
 all : ∀ s ∈ M, Im.Ok s.g s.r /\ Gm.ty s.g
 runs : ∀ (i : Nat) (s : Fd.S), M[i]? = Option.some s -> s.g.frame = first M + (i : Int)
open Classical in
noncomputable def pushB (M : List Fd.S) (s : Fd.S) : Bool := decide (Im.Ok s.g s.r /\ s.g.frame = last M + 1 /\ M.length <= 8)
noncomputable def push (M : List Fd.S) (s : Fd.S) : List Fd.S := if pushB M s = true then M ++ [s] else M
def hasB (M : List Fd.S) (f : Int) : Bool := decide (first M <= f /\ f <= last M)
def cut (M : List Fd.S) (f : Int) : List Fd.S := if hasB M f = true then M.take ((f - first M).toNat + 1) else M
def drop (M : List Fd.S) (f : Int) : List Fd.S := if hasB M f = true then M.drop (f - first M).toNat else M
def at_ (M : List Fd.S) (f : Int) : Option Fd.S := if hasB M f = true then M[(f - first M).toNat]? else none
open Classical in
theorem qgJ {M : List Fd.S} {s : Fd.S} (h1 : Im.Ok s.g s.r) (h2 : s.g.frame = last M + 1) (h3 : M.length <= 8) : pushB M s = true := decide_eq_true ⟨h1, h2, h3⟩
open Classical in
theorem qpm {M : List Fd.S} {s : Fd.S} (h : ¬ (Im.Ok s.g s.r /\ s.g.frame = last M + 1 /\ M.length <= 8)) : pushB M s = false := decide_eq_false h
open Classical in
theorem qpn {M : List Fd.S} {s : Fd.S} : pushB M s = true ↔ Im.Ok s.g s.r /\ s.g.frame = last M + 1 /\ M.length <= 8 := by unfold pushB; rw [decide_eq_true_iff]
theorem qix {M : List Fd.S} {s : Fd.S} (h : pushB M s = true) : push M s = M ++ [s] := if_pos h
theorem qqf {M : List Fd.S} {s : Fd.S} (h : pushB M s = false) : push M s = M := if_neg (by rw [h]; decide)
theorem qjY {M : List Fd.S} (l : List Fd.S) (h : M ≠ []) : first (M ++ l) = first M := by
 cases M with
 | nil => exact absurd rfl h
 | cons a M => rfl
theorem qqn {M : List Fd.S} (h : M ≠ []) : 0 < M.length := by
 cases M with
 | nil => exact absurd rfl h
 | cons a M => exact Nat.succ_pos _
theorem Ok.qpL {M : List Fd.S} (h : Ok M) {s : Fd.S} (hs : M[0]? = Option.some s) : s.g.frame = first M := by have := h.runs 0 s hs; omega
theorem Ok.new {s : Fd.S} (h1 : Im.Ok s.g s.r) (h2 : Gm.ty s.g) : Ok [s] := by
 refine ⟨by simp, by simp, fun t ht => ?_, fun i t ht => ?_⟩
 · obtain rfl := List.mem_singleton.1 ht; exact ⟨h1, h2⟩
 · cases i with
   | zero => injection ht with e; subst e; show s.g.frame = s.g.frame + 0; omega
   | succ i => simp at ht
theorem Ok.push {M : List Fd.S} {s : Fd.S} (h : Ok M) (h2 : Gm.ty s.g) : Ok (push M s) := by
 unfold Rg.push
 split
 · rename_i hp
   obtain ⟨p1, p2, p3⟩ := qpn.1 hp
   refine ⟨by simp, by rw [List.length_append]; simp; omega, fun t ht => ?_, fun i t ht => ?_⟩
   · rcases List.mem_append.1 ht with ht | ht
     · exact h.all t ht
     · obtain rfl := List.mem_singleton.1 ht; exact ⟨p1, h2⟩
   · rw [qjY _ h.some]
     by_cases hi : i < M.length
     · rw [List.getElem?_append_left hi] at ht
       exact h.runs i t ht
     · rw [List.getElem?_append_right (by omega)] at ht
       have hz : i - M.length = 0 := by
        have := (List.getElem?_eq_some_iff.1 ht).1
        simp at this
        omega
       rw [hz] at ht
       injection ht with e
       subst e
       rw [p2]
       unfold last
       omega
 · exact h
theorem qjU {M : List Fd.S} {f : Int} : hasB M f = true ↔ first M <= f /\ f <= last M := by unfold hasB; rw [decide_eq_true_iff]
theorem qqw {M : List Fd.S} {f : Int} {s : Fd.S} (h : at_ M f = Option.some s) : hasB M f = true /\ M[(f - first M).toNat]? = Option.some s := by
 unfold at_ at h
 split at h
 · rename_i hp; exact ⟨hp, h⟩
 · cases h
theorem qlt {M : List Fd.S} {f : Int} (h : at_ M f = none) : hasB M f = false := by
 unfold at_ at h
 split at h
 · rename_i hp
   have hb := qjU.1 hp
   rw [List.getElem?_eq_none_iff] at h
   unfold last at hb
   omega
 · rename_i hp; simpa using hp
def St.s (q : St) : Fd.S := ⟨q.g, q.r⟩
theorem qhU {L : List St} {i : Nat} {q : St} (h : L[i]? = Option.some q) : (L.map St.s)[i]? = Option.some q.s := by rw [List.getElem?_map, h]; rfl
theorem qgM {L : List St} (h : Ok (L.map St.s)) {f : Int} (hp : hasB (L.map St.s) f = true) : qbJ L f (((f - first (L.map St.s)).toNat : Nat) : Int) /\ (f - first (L.map St.s)).toNat < L.length := by
 have hb := qjU.1 hp
 have hlt : (f - first (L.map St.s)).toNat < L.length := by unfold last at hb; rw [List.length_map] at hb; omega
 have h0 : L[(f - first (L.map St.s)).toNat]? = Option.some L[(f - first (L.map St.s)).toNat] := List.getElem?_eq_getElem hlt
 have hr := h.runs _ _ (qhU h0)
 refine ⟨.inr ⟨_, _, rfl, h0, ?_, fun x hx e => ?_⟩, hlt⟩
 · have : (L[(f - first (L.map St.s)).toNat]).g.frame = first (L.map St.s) + (((f - first (L.map St.s)).toNat : Nat) : Int) := hr
   omega
 · obtain ⟨j, hj⟩ := List.getElem?_of_mem hx
   rw [List.getElem?_take] at hj
   split at hj
   · rename_i hjl
     have hx2 : x.g.frame = first (L.map St.s) + (j : Int) := h.runs _ _ (qhU hj)
     omega
   · cases hj
theorem qiy {L : List St} (h : Ok (L.map St.s)) {f : Int} (hp : hasB (L.map St.s) f = false) : qbJ L f (-1) := by
 refine .inl ⟨rfl, fun x hx e => ?_⟩
 obtain ⟨j, hj⟩ := List.getElem?_of_mem hx
 have hx2 : x.g.frame = first (L.map St.s) + (j : Int) := h.runs _ _ (qhU hj)
 have hjl := (List.getElem?_eq_some_iff.1 hj).1
 have : hasB (L.map St.s) f = true := qjU.2 ⟨by omega, by unfold last; rw [List.length_map]; omega⟩
 rw [this] at hp
 cases hp
end Go.Proofs.YtmiopphcfdlneaaGreat.Rg
namespace Go.Proofs.YtmiopphcfdlneaaGreat
open Go.RowKit
structure qaB (F : Nat -> Prop) (X X' : World) : Prop where
 os : X'.os = X.os
 tape : X'.tape = X.tape
 output : X'.output = X.output
 size : X.heap.size <= X'.heap.size
 block : ∀ k, k < X.heap.size -> ¬ F k -> X'.heap[k]? = X.heap[k]?
section
variable {F F' : Nat -> Prop} {X X' X'' : World}
theorem qaB.refl (F : Nat -> Prop) (X : World) : qaB F X X := ⟨rfl, rfl, rfl, Nat.le_refl _, fun _ _ _ => rfl⟩
theorem qaB.trans (h : qaB F X X') (k : qaB F' X' X'') (hs : ∀ j, F' j -> F j \/ X.heap.size <= j) : qaB F X X'' :=
 ⟨k.os.trans h.os, k.tape.trans h.tape, k.output.trans h.output, Nat.le_trans h.size k.size, fun j hj hn => (k.block j (Nat.lt_of_lt_of_le hj h.size) fun hf => (hs j hf).elim hn (by omega)).trans (h.block j hj hn)⟩
theorem qaB.call (h : qaB F X X') (hb : Below X'.heap.size X' X'') : qaB F X X'' := h.trans (F' := F) ⟨hb.os, hb.tape, hb.output, hb.size, fun k hk _ => hb.block k hk⟩ (fun j hf => .inl hf)
theorem qaB.put {B : Nat} (h : qaB F X X') (hF : F B \/ X.heap.size <= B) (i : Nat) (u : Value) : qaB F X (X'.setCell ⟨B, i, none⟩ u) := by
 have hz := (Below.refl 0 X').setCell (p := ⟨B, i, none⟩) (Nat.zero_le _) u
 refine h.trans (F' := fun k => k = B) ⟨hz.os, hz.tape, hz.output, hz.size, fun k hk hne => heap_setCell_other X' ⟨B, i, none⟩ k u hne⟩ (fun j hj => ?_)
 subst hj
 exact hF
theorem qaB.below {b : Nat} (h : qaB F X X') (hF : ∀ k, F k -> b <= k) (hb : b <= X.heap.size) : Below b X X' := ⟨h.os, h.tape, h.output, h.size, fun k hk => h.block k (by omega) fun hf => by have := hF k hf; omega⟩
end
structure ObjC {μ : Type} (LP : Nat -> (Nat -> Prop) -> Nat -> μ -> World -> Prop) : Prop where
 up : ∀ {b F B m X}, LP b F B m X -> ∀ k, F k -> b <= k /\ k < X.heap.size
 keep : ∀ {b F B m X G X'}, LP b F B m X -> qaB G X X' -> (∀ j, F j -> ¬ G j) -> LP b F B m X'
def qbN {μ : Type} (LP : Nat -> (Nat -> Prop) -> Nat -> μ -> World -> Prop) (b : Nat) (F : Nat -> Prop) (B : Nat) (m' : μ) (r : Value) (X : World) (e : Ending) (X' : World) : Prop := e = .returned r /\ ∃ F', (∀ k, F' k -> F k \/ X.heap.size <= k) /\ LP b F' B m' X' /\ qaB F X X'
def qb1 {μ : Type} (LP : Nat -> (Nat -> Prop) -> Nat -> μ -> World -> Prop) (w : World) (B : Nat) (m : μ) (G : Nat -> Prop) (X : World) : Prop :=
 ∃ F, LP w.heap.size F B m X /\ (∀ j, G j -> ¬ F j /\ w.heap.size <= j /\ j < X.heap.size) /\ Below w.heap.size w X
def qlD (G : Nat -> Prop) (X X' : World) : Prop := ∀ j, G j -> X'.heap[j]? = X.heap[j]?
section
variable {μ : Type} {LP : Nat -> (Nat -> Prop) -> Nat -> μ -> World -> Prop} {w : World} {B : Nat} {m m' : μ} {G G' : Nat -> Prop} {X X' X'' : World}
theorem qlD.box {g : Nat} {t : TypeId} {cs : Array Value} (h : qlD G X X') (hg : G g) (hb : Box X g t cs) : Box X' g t cs := ⟨(h g hg).trans hb.is⟩
theorem qaB.qa9 (hb : Below X.heap.size X X') : qaB (fun _ => False) X X' := ⟨hb.os, hb.tape, hb.output, hb.size, fun k hk _ => hb.block k hk⟩
theorem qaB.qfr {g : Nat} (ho : Only g X X') : qaB (fun k => k = g) X X' := ⟨ho.os, ho.tape, ho.output, ho.size, fun k hk hn => ho.block k hk hn⟩
theorem qb1.down (h : qb1 LP w B m G X) : Below w.heap.size w X := by obtain ⟨F, _, _, h⟩ := h; exact h
theorem qb1.less (h : qb1 LP w B m G X) (hs : ∀ j, G' j -> G j) : qb1 LP w B m G' X := by
 obtain ⟨F, h1, h2, h3⟩ := h
 exact ⟨F, h1, fun j hj => h2 j (hs j hj), h3⟩
theorem qb1.new {F : Nat -> Prop} (h1 : LP w.heap.size F B m X') (hF : ∀ k, F k -> X.heap.size <= k) (hw : Below w.heap.size w X) (hG : ∀ j, G j -> w.heap.size <= j /\ j < X.heap.size) (hb : Below X.heap.size X X') : qb1 LP w B m G X' :=
 ⟨F, h1, fun j hj => ⟨fun hf => by have := hF j hf; have := (hG j hj).2; omega, (hG j hj).1, Nat.lt_of_lt_of_le (hG j hj).2 hb.size⟩, hw.trans (hb.mono hw.size)⟩
variable (C : ObjC LP)
include C
theorem qb1.below (h : qb1 LP w B m G X) (hb : Below X.heap.size X X') : qb1 LP w B m G X' := by
 obtain ⟨F, h1, h2, h3⟩ := h
 exact ⟨F, C.keep h1 (qaB.qa9 hb) (fun _ _ h => h), fun j hj => ⟨(h2 j hj).1, (h2 j hj).2.1, Nat.lt_of_lt_of_le (h2 j hj).2.2 hb.size⟩, h3.trans (hb.mono h3.size)⟩
theorem qb1.alloc (h : qb1 LP w B m G X) (o : Obj) : qb1 LP w B m (fun j => G j \/ j = X.heap.size) (X.alloc o) := by
 obtain ⟨F, h1, h2, h3⟩ := h
 have hb := qac X o
 refine ⟨F, C.keep h1 (qaB.qa9 hb) (fun _ _ h => h), fun j hj => ?_, h3.trans (hb.mono h3.size)⟩
 rcases hj with hj | rfl
 · exact ⟨(h2 j hj).1, (h2 j hj).2.1, Nat.lt_of_lt_of_le (h2 j hj).2.2 hb.size⟩
 · exact ⟨fun hf => by have := (C.up h1 _ hf).2; omega, h3.size, by simp⟩
theorem qb1.only {g : Nat} (h : qb1 LP w B m G X) (hg : G g) (ho : Only g X X') : qb1 LP w B m G X' := by
 obtain ⟨F, h1, h2, h3⟩ := h
 refine ⟨F, C.keep h1 (qaB.qfr ho) (fun j hf he => ?_), fun j hj => ⟨(h2 j hj).1, (h2 j hj).2.1, Nat.lt_of_lt_of_le (h2 j hj).2.2 ho.size⟩, h3.trans (ho.below (h2 g hg).2.1 h3.size)⟩
 subst he
 exact (h2 _ hg).1 hf
theorem qb1.says {F : Nat -> Prop} {r : Value} {e : Ending} (h1 : LP w.heap.size F B m X) (h2 : ∀ j, G j -> ¬ F j /\ w.heap.size <= j /\ j < X.heap.size) (h3 : Below w.heap.size w X) (h : qbN LP w.heap.size F B m' r X e X') :
 e = .returned r /\ qb1 LP w B m' G X' /\ qlD G X X' := by
 obtain ⟨rfl, F', hF, hL, hK⟩ := h
 refine ⟨rfl, ⟨F', hL, fun j hj => ⟨fun hf => ?_, (h2 j hj).2.1, Nat.lt_of_lt_of_le (h2 j hj).2.2 hK.size⟩, h3.trans (hK.below (fun k hk => (C.up h1 k hk).1) h3.size)⟩, fun j hj => hK.block j (h2 j hj).2.2 (h2 j hj).1⟩
 rcases hF j hf with hf | hf
 · exact (h2 j hj).1 hf
 · have := (h2 j hj).2.2; omega
end
end Go.Proofs.YtmiopphcfdlneaaGreat