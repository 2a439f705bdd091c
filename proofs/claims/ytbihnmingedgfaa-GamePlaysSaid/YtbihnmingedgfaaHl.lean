/-
A region that draws its order, walked once where the world is known by a class; a ship in a game's block, field by field.
-/
import Derived.Test.YtbihnmingedgfaaHd
import Derived.Test.YtbihnmingedgfaaRo
import Derived.Deep.CutRange
import Derived.Deep.CutBlock
import Derived.Deep.DeepCutAuto
namespace Ro
open Go
section
variable {P : Program} {Q : Act → (World → Prop) → Prop} {o : Oper} {rest : List Oper} {a : Act} {C : World → Prop} {W : World}
theorem lexc_read (hs : isStore o = false) (hf : isFree o = false) {v : Value} (hrun : ∀ w, C w → (execOp a.eval o).run P w = .ok (.value v) w) (h : wpLex P Q rest (a.put o.dst v) C) : wpLex P Q (o :: rest) a C := by
  unfold wpLex
  rw [if_neg (by simp [hs]), if_neg (by simp [hf])]
  exact ⟨v, fun w hw => by unfold Gives; rw [hrun w hw]; exact ⟨rfl, hw⟩, h⟩
theorem lexc_call (hs : isStore o = false) (hf : isFree o = false) {v : Value} {f : FuncId} {args : Array Value} (hrun : ∀ w, C w → (execOp a.eval o).run P w = .ok (.enter f args) w) (hc : ∀ w, C w → Calls P f args w fun e w' => e = .returned v ∧ C w')
    (h : wpLex P Q rest (a.put o.dst v) C) : wpLex P Q (o :: rest) a C := by
  unfold wpLex
  rw [if_neg (by simp [hs]), if_neg (by simp [hf])]
  exact ⟨v, fun w hw => by unfold Gives; rw [hrun w hw]; exact hc w hw, h⟩
theorem lexc_store (hs : isStore o = true) {C' : World → Prop} (hrun : ∀ w, C w → ∃ W', (execOp a.eval o).run P w = .ok .skip W' ∧ C' W') (h : wpLex P Q rest (a.put o.dst undef) C') : wpLex P Q (o :: rest) a C := by
  unfold wpLex
  rw [if_pos hs]
  exact ⟨C', fun w hw => by obtain ⟨W', h1, h2⟩ := hrun w hw; unfold Gives; rw [h1]; exact ⟨rfl, h2⟩, h⟩
theorem lexc_end {Q : Exit → Act → World → Prop} (h : ∀ w', C w' → Q .normal a w') : wpLex P (fun a' C' => ∀ w', C' w' → Q .normal a' w') [] a C := h
end
end Ro
namespace Go.Proofs.Ytbihnmingedgfaa
open Go.RowKit
set_option linter.unusedVariables false

section
variable (g : Gm.G) (s : Value) (k : Nat) (t : Gm.Ship)
theorem set_x (hk : k < 8) (u : Int) : (Gm.cells { g with ship := Gm.upd g.ship k t } s).setIfInBounds (2 + k * 7 + 1) (.int .i32 u) = Gm.cells { g with ship := Gm.upd g.ship k { t with x := u } } s := by
  match k, hk with | 0, _ | 1, _ | 2, _ | 3, _ | 4, _ | 5, _ | 6, _ | 7, _ => rfl
theorem set_y (hk : k < 8) (u : Int) : (Gm.cells { g with ship := Gm.upd g.ship k t } s).setIfInBounds (2 + k * 7 + 2) (.int .i32 u) = Gm.cells { g with ship := Gm.upd g.ship k { t with y := u } } s := by
  match k, hk with | 0, _ | 1, _ | 2, _ | 3, _ | 4, _ | 5, _ | 6, _ | 7, _ => rfl
theorem set_vx (hk : k < 8) (u : Int) : (Gm.cells { g with ship := Gm.upd g.ship k t } s).setIfInBounds (2 + k * 7 + 3) (.int .i32 u) = Gm.cells { g with ship := Gm.upd g.ship k { t with vx := u } } s := by
  match k, hk with | 0, _ | 1, _ | 2, _ | 3, _ | 4, _ | 5, _ | 6, _ | 7, _ => rfl
theorem set_vy (hk : k < 8) (u : Int) : (Gm.cells { g with ship := Gm.upd g.ship k t } s).setIfInBounds (2 + k * 7 + 4) (.int .i32 u) = Gm.cells { g with ship := Gm.upd g.ship k { t with vy := u } } s := by
  match k, hk with | 0, _ | 1, _ | 2, _ | 3, _ | 4, _ | 5, _ | 6, _ | 7, _ => rfl
theorem set_cool (hk : k < 8) (u : Int) : (Gm.cells { g with ship := Gm.upd g.ship k t } s).setIfInBounds (2 + k * 7 + 5) (.int .i64 u) = Gm.cells { g with ship := Gm.upd g.ship k { t with cool := u } } s := by
  match k, hk with | 0, _ | 1, _ | 2, _ | 3, _ | 4, _ | 5, _ | 6, _ | 7, _ => rfl
theorem set_score (hk : k < 8) (u : Int) : (Gm.cells { g with ship := Gm.upd g.ship k t } s).setIfInBounds (2 + k * 7 + 6) (.int .i64 u) = Gm.cells { g with ship := Gm.upd g.ship k { t with score := u } } s := by
  match k, hk with | 0, _ | 1, _ | 2, _ | 3, _ | 4, _ | 5, _ | 6, _ | 7, _ => rfl
end
theorem has_upd {b B k : Nat} {g : Gm.G} {w : World} (h : Has b B g w) : Has b B { g with ship := Gm.upd g.ship k (g.ship k) } w := by
  rw [Gm.upd_self]; exact h
/-- A game with a ship t in slot k. -/
abbrev shipG (g : Gm.G) (k : Nat) (t : Gm.Ship) : Gm.G := { g with ship := Gm.upd g.ship k t }
theorem shipG_at (g : Gm.G) (s : Value) (k j : Nat) (t : Gm.Ship) (hk : k < 8) (hj : j < 7) : (Gm.cells (shipG g k t) s)[2 + k * 7 + j]? = t.cells[j]? := by
  rw [Gm.cells_ship _ _ _ _ hk hj, show (shipG g k t).ship k = t from Gm.upd_same _ _ _]

/-- What is known while a ship is steered. -/
structure Steers (b B Bi k : Nat) (w0 : World) (g : Gm.G) (A : Option Addr) (c : Nat) (ic : Array Value) (t : Gm.Ship) (w : World) : Prop where
  game : Box w B 30 (Gm.cells (shipG g k t) (.slice A g.shots.length c))
  own : w.ownsRow b 108 6 (.slice A g.shots.length c) g.shots.length (Gm.shotCells g.shots)
  inp : Box w Bi 37 ic
  keep : Keep b B w0 w
section
variable {b B Bi k : Nat} {w0 w w' : World} {g : Gm.G} {A : Option Addr} {c : Nat} {ic : Array Value} {t : Gm.Ship}
theorem Steers.call (h : Steers b B Bi k w0 g A c ic t w) (hb : Below w.heap.size w w') : Steers b B Bi k w0 g A c ic t w' :=
  ⟨h.game.below hb h.game.lt, own_below h.own hb (Nat.le_refl _), h.inp.below hb h.inp.lt, h.keep.call hb⟩
theorem Steers.drew (h : Steers b B Bi k w0 g A c ic t w) : Steers b B Bi k w0 g A c ic t w.drew := ⟨h.game.drew, h.own.drew, h.inp.drew, h.keep.drew⟩
theorem Steers.put {t' : Gm.Ship} {i : Nat} {u : Value} (h : Steers b B Bi k w0 g A c ic t w) (he : (Gm.cells (shipG g k t) (.slice A g.shots.length c)).setIfInBounds i u = Gm.cells (shipG g k t') (.slice A g.shots.length c)) : Steers b B Bi k w0 g A c ic t' (w.setCell ⟨B, i, none⟩ u) :=
  ⟨he ▸ h.game.put i u, ownsRow_setCell_other (a := ⟨B, i, none⟩) h.own (h.game.unowned h.own (by decide)) u, h.inp.far (fun e => Box.apart h.game h.inp (by decide) e.symm) u, h.keep.put i u⟩
theorem Steers.has (h : Steers b B Bi k w0 g A c ic t w) : Has b B (shipG g k t) w := ⟨A, c, h.game, h.own⟩
end

/-- Where a ship goes that is steered so. -/
def steered (t : Gm.Ship) (x y : Int) : Gm.Ship := { t with vx := Gf.push t.vx x, vy := Gf.push t.vy y, x := Gf.move t.x (Gf.push t.vx x), y := Gf.move t.y (Gf.push t.vy y) }

set_option maxRecDepth 100000 in
set_option maxHeartbeats 4000000 in
theorem steer_any (g : Gm.G) (b B k : Nat) (x y p : Int) (w : World) (hbB : b ≤ B) (hk : k < 8) (h : Has b B g w) (ht : Gm.tyShip (g.ship k)) (wx : -128 ≤ x ∧ x ≤ 127) (wy : -128 ≤ y ∧ y ≤ 127) :
    Calls Try.prog 60 #[.pointer (some ⟨B, 2 + k * 7, none⟩), .agg #[.int .i8 x, .int .i8 y, .int .u8 p]] w fun e w' => (∃ v, e = .returned v) ∧ Has b B (shipG g k (steered (g.ship k) x y)) w' ∧ Keep b B w w' := by
  obtain ⟨A, c, hB, hO⟩ := h
  obtain ⟨t, hT⟩ : ∃ t, t = g.ship k := ⟨_, rfl⟩
  have hB' : Box w B 30 (Gm.cells (shipG g k t) (.slice A g.shots.length c)) := by rw [hT, shipG, Gm.upd_self]; exact hB
  have C0 : Steers b B w.heap.size k w g A c #[.int .i8 x, .int .i8 y, .int .u8 p] t (w.alloc (.cells #[.int .i8 x, .int .i8 y, .int .u8 p] 37)) :=
    ⟨hB'.alloc _, hO.alloc _, Box.made _ _ _, (Keep.refl hbB w).alloc _⟩
  rw [← hT] at ht ⊢
  obtain ⟨ti, xi, yi, vxi, vyi, ci, si⟩ := ht
  unfold Gm.i32 at *
  have p1 := Gf.push_bd t.vx x
  have p2 := Gf.push_bd t.vy y
  have k1 := fun X => Lib.hid (fldpush_any t.vx x (by omega) wx X)
  have k2 := fun X => Lib.hid (fldpush_any t.vy y (by omega) wy X)
  have k3 := fun X => Lib.hid (fldmove_any t.x (Gf.push t.vx x) (by omega) (by omega) X)
  have k4 := fun X => Lib.hid (fldmove_any t.y (Gf.push t.vy y) (by omega) (by omega) X)
  have F : steered t x y = { t with vx := Gf.push t.vx x, vy := Gf.push t.vy y, x := Gf.move t.x (Gf.push t.vx x), y := Gf.move t.y (Gf.push t.vy y) } := rfl
  rw [F]
  generalize hvx : Gf.push t.vx x = VX at p1 k1 k3 ⊢
  generalize hvy : Gf.push t.vy y = VY at p2 k2 k4 ⊢
  generalize hx : Gf.move t.x VX = X at k3 ⊢
  generalize hy : Gf.move t.y VY = Y at k4 ⊢
  have HC := Lib.hid C0
  clear hT hB hB' hO C0 F hvx hvy hx hy ti
  go_enter Try.func60, Try.ntmps60
  go_upto_region 1 with fail
  refine Ro.wp_region_lex (by kernel_rfl) (by kernel_rfl) (Steers b B w.heap.size k w g A c #[.int .i8 x, .int .i8 y, .int .u8 p] t) HC.out.drew ?_
  repeat (first
    | (apply Ro.lex_free rfl rfl; focus (intro _; go_simp; first | done | rfl))
    | (apply Ro.lexc_read rfl rfl; focus (intro W hW; have c0 := hW.game.cell; have ci := hW.inp.cell; have s3 := shipG_at g (.slice A g.shots.length c) k 3 t hk (by omega); have s4 := shipG_at g (.slice A g.shots.length c) k 4 t hk (by omega); simp only [Gm.Ship.cells, List.getElem?_cons_zero, List.getElem?_cons_succ] at s3 s4; clear hW; go_simp; first | done | rfl))
    | (apply Ro.lexc_call rfl rfl; (focus (intro W hW; clear hW; go_simp; first | done | rfl | exact ⟨rfl, rfl⟩)); (focus (intro W hW; first | ((with_reducible refine (k1 W).out.mono ?_); exact fun e w' h => ⟨h.1, hW.call h.2⟩) | ((with_reducible refine (k2 W).out.mono ?_); exact fun e w' h => ⟨h.1, hW.call h.2⟩)))))
  refine Ro.lexc_store rfl (C' := Steers b B w.heap.size k w g A c #[.int .i8 x, .int .i8 y, .int .u8 p] { t with vx := VX }) (fun W hW => ⟨_, ?_, hW.put (set_vx g _ k t hk _)⟩) ?_
  focus
    have c0 := hW.game.cell
    have f0 := hW.game.free
    have s3 := shipG_at g (.slice A g.shots.length c) k 3 t hk (by omega)
    simp only [Gm.Ship.cells, List.getElem?_cons_zero, List.getElem?_cons_succ] at s3
    clear hW
    go_simp
    first | done | rfl
  repeat (first
    | (apply Ro.lex_free rfl rfl; focus (intro _; go_simp; first | done | rfl))
    | (apply Ro.lexc_read rfl rfl; focus (intro W hW; have c0 := hW.game.cell; have ci := hW.inp.cell; have s3 := shipG_at g (.slice A g.shots.length c) k 3 { t with vx := VX } hk (by omega); have s4 := shipG_at g (.slice A g.shots.length c) k 4 { t with vx := VX } hk (by omega); simp only [Gm.Ship.cells, List.getElem?_cons_zero, List.getElem?_cons_succ] at s3 s4; clear hW; go_simp; first | done | rfl))
    | (apply Ro.lexc_call rfl rfl; (focus (intro W hW; clear hW; go_simp; first | done | rfl | exact ⟨rfl, rfl⟩)); (focus (intro W hW; first | ((with_reducible refine (k1 W).out.mono ?_); exact fun e w' h => ⟨h.1, hW.call h.2⟩) | ((with_reducible refine (k2 W).out.mono ?_); exact fun e w' h => ⟨h.1, hW.call h.2⟩)))))
  refine Ro.lexc_store rfl (C' := Steers b B w.heap.size k w g A c #[.int .i8 x, .int .i8 y, .int .u8 p] { t with vx := VX, vy := VY }) (fun W hW => ⟨_, ?_, hW.put (set_vy g _ k { t with vx := VX } hk _)⟩) ?_
  focus
    have c0 := hW.game.cell
    have f0 := hW.game.free
    have s4 := shipG_at g (.slice A g.shots.length c) k 4 { t with vx := VX } hk (by omega)
    simp only [Gm.Ship.cells, List.getElem?_cons_zero, List.getElem?_cons_succ] at s4
    clear hW
    go_simp
    first | done | rfl
  refine Ro.lexc_end fun W1 HW => ?_
  have HC1 := Lib.hid HW
  clear HW HC
  go_upto_region 2 with fail
  refine Ro.wp_region_lex (by kernel_rfl) (by kernel_rfl) (Steers b B w.heap.size k w g A c #[.int .i8 x, .int .i8 y, .int .u8 p] { t with vx := VX, vy := VY }) HC1.out.drew ?_
  repeat (first
    | (apply Ro.lex_free rfl rfl; focus (intro _; go_simp; first | done | rfl))
    | (apply Ro.lexc_read rfl rfl; focus (intro W hW; have c0 := hW.game.cell; have ci := hW.inp.cell; have s1 := shipG_at g (.slice A g.shots.length c) k 1 { t with vx := VX, vy := VY } hk (by omega); have s2 := shipG_at g (.slice A g.shots.length c) k 2 { t with vx := VX, vy := VY } hk (by omega); have s3 := shipG_at g (.slice A g.shots.length c) k 3 { t with vx := VX, vy := VY } hk (by omega); have s4 := shipG_at g (.slice A g.shots.length c) k 4 { t with vx := VX, vy := VY } hk (by omega); simp only [Gm.Ship.cells, List.getElem?_cons_zero, List.getElem?_cons_succ] at s1 s2 s3 s4; clear hW; go_simp; first | done | rfl))
    | (apply Ro.lexc_call rfl rfl; (focus (intro W hW; clear hW; go_simp; first | done | rfl | exact ⟨rfl, rfl⟩)); (focus (intro W hW; first | ((with_reducible refine (k3 W).out.mono ?_); exact fun e w' h => ⟨h.1, hW.call h.2⟩) | ((with_reducible refine (k4 W).out.mono ?_); exact fun e w' h => ⟨h.1, hW.call h.2⟩)))))
  refine Ro.lexc_store rfl (C' := Steers b B w.heap.size k w g A c #[.int .i8 x, .int .i8 y, .int .u8 p] { t with vx := VX, vy := VY, x := X }) (fun W hW => ⟨_, ?_, hW.put (set_x g _ k { t with vx := VX, vy := VY } hk _)⟩) ?_
  focus
    have c0 := hW.game.cell
    have f0 := hW.game.free
    have s1 := shipG_at g (.slice A g.shots.length c) k 1 { t with vx := VX, vy := VY } hk (by omega)
    simp only [Gm.Ship.cells, List.getElem?_cons_zero, List.getElem?_cons_succ] at s1
    clear hW
    go_simp
    first | done | rfl
  repeat (first
    | (apply Ro.lex_free rfl rfl; focus (intro _; go_simp; first | done | rfl))
    | (apply Ro.lexc_read rfl rfl; focus (intro W hW; have c0 := hW.game.cell; have ci := hW.inp.cell; have s1 := shipG_at g (.slice A g.shots.length c) k 1 { t with vx := VX, vy := VY, x := X } hk (by omega); have s2 := shipG_at g (.slice A g.shots.length c) k 2 { t with vx := VX, vy := VY, x := X } hk (by omega); have s3 := shipG_at g (.slice A g.shots.length c) k 3 { t with vx := VX, vy := VY, x := X } hk (by omega); have s4 := shipG_at g (.slice A g.shots.length c) k 4 { t with vx := VX, vy := VY, x := X } hk (by omega); simp only [Gm.Ship.cells, List.getElem?_cons_zero, List.getElem?_cons_succ] at s1 s2 s3 s4; clear hW; go_simp; first | done | rfl))
    | (apply Ro.lexc_call rfl rfl; (focus (intro W hW; clear hW; go_simp; first | done | rfl | exact ⟨rfl, rfl⟩)); (focus (intro W hW; first | ((with_reducible refine (k3 W).out.mono ?_); exact fun e w' h => ⟨h.1, hW.call h.2⟩) | ((with_reducible refine (k4 W).out.mono ?_); exact fun e w' h => ⟨h.1, hW.call h.2⟩)))))
  refine Ro.lexc_store rfl (C' := Steers b B w.heap.size k w g A c #[.int .i8 x, .int .i8 y, .int .u8 p] { t with vx := VX, vy := VY, x := X, y := Y }) (fun W hW => ⟨_, ?_, hW.put (set_y g _ k { t with vx := VX, vy := VY, x := X } hk _)⟩) ?_
  focus
    have c0 := hW.game.cell
    have f0 := hW.game.free
    have s2 := shipG_at g (.slice A g.shots.length c) k 2 { t with vx := VX, vy := VY, x := X } hk (by omega)
    simp only [Gm.Ship.cells, List.getElem?_cons_zero, List.getElem?_cons_succ] at s2
    clear hW
    go_simp
    first | done | rfl
  refine Ro.lexc_end fun W2 HW => ?_
  have HC2 := Lib.hid HW
  clear HW HC1
  go_wp2
  go_end0
  exact ⟨⟨_, rfl⟩, HC2.out.has, HC2.out.keep⟩
end Go.Proofs.Ytbihnmingedgfaa
