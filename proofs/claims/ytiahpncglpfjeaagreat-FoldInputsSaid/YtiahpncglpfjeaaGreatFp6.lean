/-
Several texts in one: Hl Hm Hn He Ho Hq Hr Hs Ht.
-/
import Derived.Test.YtiahpncglpfjeaaGreatFp5
namespace Ro
open Go
section
variable {P : Program} {Q : Act → (World → Prop) → Prop} {o : Oper} {rest : List Oper} {a : Act} {C : World → Prop} {W : World}
theorem lexc_read (hs : isStore o = false) (hf : isFree o = false) {v : Value} (hrun : ∀ w, C w → (execOp a.eval o).run P w = .ok (.value v) w) (h : wpLex P Q rest (a.put o.dst v) C) : wpLex P Q (o :: rest) a C := by
  unfold wpLex
  rw [if_neg (by simp [hs]), if_neg (by simp [hf])]
  exact ⟨v, fun w hw => by unfold Gives; rw [hrun w hw]; exact ⟨rfl, hw⟩, h⟩
theorem lexc_call (hs : isStore o = false) (hf : isFree o = false) {v : Value} {f : FuncId} {args : Array Value} (hrun : ∀ w, C w → (execOp a.eval o).run P w = .ok (.enter f args) w) (hc : ∀ w, C w → Calls P f args w fun e w' => e = .returned v ∧ C w')
    (h : wpLex P Q rest (a.put o.dst v) C) : wpLex P Q (o :: rest) a C := by
  unfold wpLex
  rw [if_neg (by simp [hs]), if_neg (by simp [hf])]
  exact ⟨v, fun w hw => by unfold Gives; rw [hrun w hw]; exact hc w hw, h⟩
theorem lexc_store (hs : isStore o = true) {C' : World → Prop} (hrun : ∀ w, C w → ∃ W', (execOp a.eval o).run P w = .ok .skip W' ∧ C' W') (h : wpLex P Q rest (a.put o.dst undef) C') : wpLex P Q (o :: rest) a C := by
  unfold wpLex
  rw [if_pos hs]
  exact ⟨C', fun w hw => by obtain ⟨W', h1, h2⟩ := hrun w hw; unfold Gives; rw [h1]; exact ⟨rfl, h2⟩, h⟩
theorem lexc_end {Q : Exit → Act → World → Prop} (h : ∀ w', C w' → Q .normal a w') : wpLex P (fun a' C' => ∀ w', C' w' → Q .normal a' w') [] a C := h
end
end Ro
namespace Go.Proofs.YtiahpncglpfjeaaGreat
open Go.RowKit
set_option linter.unusedVariables false

section
variable (g : Gm.G) (s : Value) (k : Nat) (t : Gm.Ship)
theorem set_x (hk : k < 8) (u : Int) : (Gm.cells { g with ship := Gm.upd g.ship k t } s).setIfInBounds (2 + k * 7 + 1) (.int .i32 u) = Gm.cells { g with ship := Gm.upd g.ship k { t with x := u } } s := by
  match k, hk with | 0, _ | 1, _ | 2, _ | 3, _ | 4, _ | 5, _ | 6, _ | 7, _ => rfl
theorem set_y (hk : k < 8) (u : Int) : (Gm.cells { g with ship := Gm.upd g.ship k t } s).setIfInBounds (2 + k * 7 + 2) (.int .i32 u) = Gm.cells { g with ship := Gm.upd g.ship k { t with y := u } } s := by
  match k, hk with | 0, _ | 1, _ | 2, _ | 3, _ | 4, _ | 5, _ | 6, _ | 7, _ => rfl
theorem set_vx (hk : k < 8) (u : Int) : (Gm.cells { g with ship := Gm.upd g.ship k t } s).setIfInBounds (2 + k * 7 + 3) (.int .i32 u) = Gm.cells { g with ship := Gm.upd g.ship k { t with vx := u } } s := by
  match k, hk with | 0, _ | 1, _ | 2, _ | 3, _ | 4, _ | 5, _ | 6, _ | 7, _ => rfl
theorem set_vy (hk : k < 8) (u : Int) : (Gm.cells { g with ship := Gm.upd g.ship k t } s).setIfInBounds (2 + k * 7 + 4) (.int .i32 u) = Gm.cells { g with ship := Gm.upd g.ship k { t with vy := u } } s := by
  match k, hk with | 0, _ | 1, _ | 2, _ | 3, _ | 4, _ | 5, _ | 6, _ | 7, _ => rfl
theorem set_cool (hk : k < 8) (u : Int) : (Gm.cells { g with ship := Gm.upd g.ship k t } s).setIfInBounds (2 + k * 7 + 5) (.int .i64 u) = Gm.cells { g with ship := Gm.upd g.ship k { t with cool := u } } s := by
  match k, hk with | 0, _ | 1, _ | 2, _ | 3, _ | 4, _ | 5, _ | 6, _ | 7, _ => rfl
theorem set_score (hk : k < 8) (u : Int) : (Gm.cells { g with ship := Gm.upd g.ship k t } s).setIfInBounds (2 + k * 7 + 6) (.int .i64 u) = Gm.cells { g with ship := Gm.upd g.ship k { t with score := u } } s := by
  match k, hk with | 0, _ | 1, _ | 2, _ | 3, _ | 4, _ | 5, _ | 6, _ | 7, _ => rfl
end
/-- A game with a ship t in slot k. -/
abbrev shipG (g : Gm.G) (k : Nat) (t : Gm.Ship) : Gm.G := { g with ship := Gm.upd g.ship k t }
theorem shipG_at (g : Gm.G) (s : Value) (k j : Nat) (t : Gm.Ship) (hk : k < 8) (hj : j < 7) : (Gm.cells (shipG g k t) s)[2 + k * 7 + j]? = t.cells[j]? := by
  rw [Gm.cells_ship _ _ _ _ hk hj, show (shipG g k t).ship k = t from Gm.upd_same _ _ _]

/-- What is known while a ship is steered. -/
structure Steers (b B Bi k : Nat) (w0 : World) (g : Gm.G) (A : Option Addr) (c : Nat) (ic : Array Value) (t : Gm.Ship) (w : World) : Prop where
  game : Box w B 28 (Gm.cells (shipG g k t) (.slice A g.shots.length c))
  own : w.ownsRow b 90 6 (.slice A g.shots.length c) g.shots.length (Gm.shotCells g.shots)
  inp : Box w Bi 39 ic
  keep : Keep b B w0 w
section
variable {b B Bi k : Nat} {w0 w w' : World} {g : Gm.G} {A : Option Addr} {c : Nat} {ic : Array Value} {t : Gm.Ship}
theorem Steers.call (h : Steers b B Bi k w0 g A c ic t w) (hb : Below w.heap.size w w') : Steers b B Bi k w0 g A c ic t w' :=
  ⟨h.game.below hb h.game.lt, own_below h.own hb (Nat.le_refl _), h.inp.below hb h.inp.lt, h.keep.call hb⟩
theorem Steers.drew (h : Steers b B Bi k w0 g A c ic t w) : Steers b B Bi k w0 g A c ic t w.drew := ⟨h.game.drew, h.own.drew, h.inp.drew, h.keep.drew⟩
theorem Steers.put {t' : Gm.Ship} {i : Nat} {u : Value} (h : Steers b B Bi k w0 g A c ic t w) (he : (Gm.cells (shipG g k t) (.slice A g.shots.length c)).setIfInBounds i u = Gm.cells (shipG g k t') (.slice A g.shots.length c)) : Steers b B Bi k w0 g A c ic t' (w.setCell ⟨B, i, none⟩ u) :=
  ⟨he ▸ h.game.put i u, ownsRow_setCell_other (a := ⟨B, i, none⟩) h.own (h.game.unowned h.own (by decide)) u, h.inp.far (fun e => Box.apart h.game h.inp (by decide) e.symm) u, h.keep.put i u⟩
theorem Steers.has (h : Steers b B Bi k w0 g A c ic t w) : Has b B (shipG g k t) w := ⟨A, c, h.game, h.own⟩
end

/-- Where a ship goes that is steered so. -/
def steered (t : Gm.Ship) (x y : Int) : Gm.Ship := { t with vx := Gf.push t.vx x, vy := Gf.push t.vy y, x := Gf.move t.x (Gf.push t.vx x), y := Gf.move t.y (Gf.push t.vy y) }

set_option maxRecDepth 100000 in
set_option maxHeartbeats 4000000 in
theorem steer_any (g : Gm.G) (b B k : Nat) (x y p : Int) (w : World) (hbB : b ≤ B) (hk : k < 8) (h : Has b B g w) (ht : Gm.tyShip (g.ship k)) (wx : -128 ≤ x ∧ x ≤ 127) (wy : -128 ≤ y ∧ y ≤ 127) :
    Calls Tryz.prog 101 #[.pointer (some ⟨B, 2 + k * 7, none⟩), .agg #[.int .i8 x, .int .i8 y, .int .u8 p]] w fun e w' => (∃ v, e = .returned v) ∧ Has b B (shipG g k (steered (g.ship k) x y)) w' ∧ Keep b B w w' := by
  obtain ⟨A, c, hB, hO⟩ := h
  obtain ⟨t, hT⟩ : ∃ t, t = g.ship k := ⟨_, rfl⟩
  have hB' : Box w B 28 (Gm.cells (shipG g k t) (.slice A g.shots.length c)) := by rw [hT, shipG, Gm.upd_self]; exact hB
  have C0 : Steers b B w.heap.size k w g A c #[.int .i8 x, .int .i8 y, .int .u8 p] t (w.alloc (.cells #[.int .i8 x, .int .i8 y, .int .u8 p] 39)) :=
    ⟨hB'.alloc _, hO.alloc _, Box.made _ _ _, (Keep.refl hbB w).alloc _⟩
  rw [← hT] at ht ⊢
  obtain ⟨ti, xi, yi, vxi, vyi, ci, si⟩ := ht
  unfold Gm.i32 at *
  have p1 := Gf.push_bd t.vx x
  have p2 := Gf.push_bd t.vy y
  have k1 := fun X => Lib.hid (fldpush_any t.vx x (by omega) wx X)
  have k2 := fun X => Lib.hid (fldpush_any t.vy y (by omega) wy X)
  have k3 := fun X => Lib.hid (fldmove_any t.x (Gf.push t.vx x) (by omega) (by omega) X)
  have k4 := fun X => Lib.hid (fldmove_any t.y (Gf.push t.vy y) (by omega) (by omega) X)
  have F : steered t x y = { t with vx := Gf.push t.vx x, vy := Gf.push t.vy y, x := Gf.move t.x (Gf.push t.vx x), y := Gf.move t.y (Gf.push t.vy y) } := rfl
  rw [F]
  generalize hvx : Gf.push t.vx x = VX at p1 k1 k3 ⊢
  generalize hvy : Gf.push t.vy y = VY at p2 k2 k4 ⊢
  generalize hx : Gf.move t.x VX = X at k3 ⊢
  generalize hy : Gf.move t.y VY = Y at k4 ⊢
  have HC := Lib.hid C0
  clear hT hB hB' hO C0 F hvx hvy hx hy ti
  go_enter Tryz.func101, Tryz.ntmps101
  go_upto_region 1 with fail
  refine Ro.wp_region_lex (by kernel_rfl) (by kernel_rfl) (Steers b B w.heap.size k w g A c #[.int .i8 x, .int .i8 y, .int .u8 p] t) HC.out.drew ?_
  repeat (first
    | (apply Ro.lex_free rfl rfl; focus (intro _; go_simp; first | done | rfl))
    | (apply Ro.lexc_read rfl rfl; focus (intro W hW; have c0 := hW.game.cell; have ci := hW.inp.cell; have s3 := shipG_at g (.slice A g.shots.length c) k 3 t hk (by omega); have s4 := shipG_at g (.slice A g.shots.length c) k 4 t hk (by omega); simp only [Gm.Ship.cells, List.getElem?_cons_zero, List.getElem?_cons_succ] at s3 s4; clear hW; go_simp; first | done | rfl))
    | (apply Ro.lexc_call rfl rfl; (focus (intro W hW; clear hW; go_simp; first | done | rfl | exact ⟨rfl, rfl⟩)); (focus (intro W hW; first | ((with_reducible refine (k1 W).out.mono ?_); exact fun e w' h => ⟨h.1, hW.call h.2⟩) | ((with_reducible refine (k2 W).out.mono ?_); exact fun e w' h => ⟨h.1, hW.call h.2⟩)))))
  refine Ro.lexc_store rfl (C' := Steers b B w.heap.size k w g A c #[.int .i8 x, .int .i8 y, .int .u8 p] { t with vx := VX }) (fun W hW => ⟨_, ?_, hW.put (set_vx g _ k t hk _)⟩) ?_
  focus
    have c0 := hW.game.cell
    have f0 := hW.game.free
    have s3 := shipG_at g (.slice A g.shots.length c) k 3 t hk (by omega)
    simp only [Gm.Ship.cells, List.getElem?_cons_zero, List.getElem?_cons_succ] at s3
    clear hW
    go_simp
    first | done | rfl
  repeat (first
    | (apply Ro.lex_free rfl rfl; focus (intro _; go_simp; first | done | rfl))
    | (apply Ro.lexc_read rfl rfl; focus (intro W hW; have c0 := hW.game.cell; have ci := hW.inp.cell; have s3 := shipG_at g (.slice A g.shots.length c) k 3 { t with vx := VX } hk (by omega); have s4 := shipG_at g (.slice A g.shots.length c) k 4 { t with vx := VX } hk (by omega); simp only [Gm.Ship.cells, List.getElem?_cons_zero, List.getElem?_cons_succ] at s3 s4; clear hW; go_simp; first | done | rfl))
    | (apply Ro.lexc_call rfl rfl; (focus (intro W hW; clear hW; go_simp; first | done | rfl | exact ⟨rfl, rfl⟩)); (focus (intro W hW; first | ((with_reducible refine (k1 W).out.mono ?_); exact fun e w' h => ⟨h.1, hW.call h.2⟩) | ((with_reducible refine (k2 W).out.mono ?_); exact fun e w' h => ⟨h.1, hW.call h.2⟩)))))
  refine Ro.lexc_store rfl (C' := Steers b B w.heap.size k w g A c #[.int .i8 x, .int .i8 y, .int .u8 p] { t with vx := VX, vy := VY }) (fun W hW => ⟨_, ?_, hW.put (set_vy g _ k { t with vx := VX } hk _)⟩) ?_
  focus
    have c0 := hW.game.cell
    have f0 := hW.game.free
    have s4 := shipG_at g (.slice A g.shots.length c) k 4 { t with vx := VX } hk (by omega)
    simp only [Gm.Ship.cells, List.getElem?_cons_zero, List.getElem?_cons_succ] at s4
    clear hW
    go_simp
    first | done | rfl
  refine Ro.lexc_end fun W1 HW => ?_
  have HC1 := Lib.hid HW
  clear HW HC
  go_upto_region 2 with fail
  refine Ro.wp_region_lex (by kernel_rfl) (by kernel_rfl) (Steers b B w.heap.size k w g A c #[.int .i8 x, .int .i8 y, .int .u8 p] { t with vx := VX, vy := VY }) HC1.out.drew ?_
  repeat (first
    | (apply Ro.lex_free rfl rfl; focus (intro _; go_simp; first | done | rfl))
    | (apply Ro.lexc_read rfl rfl; focus (intro W hW; have c0 := hW.game.cell; have ci := hW.inp.cell; have s1 := shipG_at g (.slice A g.shots.length c) k 1 { t with vx := VX, vy := VY } hk (by omega); have s2 := shipG_at g (.slice A g.shots.length c) k 2 { t with vx := VX, vy := VY } hk (by omega); have s3 := shipG_at g (.slice A g.shots.length c) k 3 { t with vx := VX, vy := VY } hk (by omega); have s4 := shipG_at g (.slice A g.shots.length c) k 4 { t with vx := VX, vy := VY } hk (by omega); simp only [Gm.Ship.cells, List.getElem?_cons_zero, List.getElem?_cons_succ] at s1 s2 s3 s4; clear hW; go_simp; first | done | rfl))
    | (apply Ro.lexc_call rfl rfl; (focus (intro W hW; clear hW; go_simp; first | done | rfl | exact ⟨rfl, rfl⟩)); (focus (intro W hW; first | ((with_reducible refine (k3 W).out.mono ?_); exact fun e w' h => ⟨h.1, hW.call h.2⟩) | ((with_reducible refine (k4 W).out.mono ?_); exact fun e w' h => ⟨h.1, hW.call h.2⟩)))))
  refine Ro.lexc_store rfl (C' := Steers b B w.heap.size k w g A c #[.int .i8 x, .int .i8 y, .int .u8 p] { t with vx := VX, vy := VY, x := X }) (fun W hW => ⟨_, ?_, hW.put (set_x g _ k { t with vx := VX, vy := VY } hk _)⟩) ?_
  focus
    have c0 := hW.game.cell
    have f0 := hW.game.free
    have s1 := shipG_at g (.slice A g.shots.length c) k 1 { t with vx := VX, vy := VY } hk (by omega)
    simp only [Gm.Ship.cells, List.getElem?_cons_zero, List.getElem?_cons_succ] at s1
    clear hW
    go_simp
    first | done | rfl
  repeat (first
    | (apply Ro.lex_free rfl rfl; focus (intro _; go_simp; first | done | rfl))
    | (apply Ro.lexc_read rfl rfl; focus (intro W hW; have c0 := hW.game.cell; have ci := hW.inp.cell; have s1 := shipG_at g (.slice A g.shots.length c) k 1 { t with vx := VX, vy := VY, x := X } hk (by omega); have s2 := shipG_at g (.slice A g.shots.length c) k 2 { t with vx := VX, vy := VY, x := X } hk (by omega); have s3 := shipG_at g (.slice A g.shots.length c) k 3 { t with vx := VX, vy := VY, x := X } hk (by omega); have s4 := shipG_at g (.slice A g.shots.length c) k 4 { t with vx := VX, vy := VY, x := X } hk (by omega); simp only [Gm.Ship.cells, List.getElem?_cons_zero, List.getElem?_cons_succ] at s1 s2 s3 s4; clear hW; go_simp; first | done | rfl))
    | (apply Ro.lexc_call rfl rfl; (focus (intro W hW; clear hW; go_simp; first | done | rfl | exact ⟨rfl, rfl⟩)); (focus (intro W hW; first | ((with_reducible refine (k3 W).out.mono ?_); exact fun e w' h => ⟨h.1, hW.call h.2⟩) | ((with_reducible refine (k4 W).out.mono ?_); exact fun e w' h => ⟨h.1, hW.call h.2⟩)))))
  refine Ro.lexc_store rfl (C' := Steers b B w.heap.size k w g A c #[.int .i8 x, .int .i8 y, .int .u8 p] { t with vx := VX, vy := VY, x := X, y := Y }) (fun W hW => ⟨_, ?_, hW.put (set_y g _ k { t with vx := VX, vy := VY, x := X } hk _)⟩) ?_
  focus
    have c0 := hW.game.cell
    have f0 := hW.game.free
    have s2 := shipG_at g (.slice A g.shots.length c) k 2 { t with vx := VX, vy := VY, x := X } hk (by omega)
    simp only [Gm.Ship.cells, List.getElem?_cons_zero, List.getElem?_cons_succ] at s2
    clear hW
    go_simp
    first | done | rfl
  refine Ro.lexc_end fun W2 HW => ?_
  have HC2 := Lib.hid HW
  clear HW HC1
  go_wp2
  go_end0
  exact ⟨⟨_, rfl⟩, HC2.out.has, HC2.out.keep⟩
end Go.Proofs.YtiahpncglpfjeaaGreat
namespace Go.Proofs.YtiahpncglpfjeaaGreat
open Go.RowKit
set_option linter.unusedVariables false

theorem and_one {p : Int} (wp : 0 ≤ p ∧ p ≤ 255) : bits .and .u8 p 1 = p % 2 := by
  rw [u8_and p 1 wp.1 (by omega) (by decide) (by decide)]
  show ((p.toNat &&& 1 : Nat) : Int) = p % 2
  rw [Nat.and_one_is_mod]; omega
theorem append_runs {P : Program} (w : World) {t ty e : TypeId} {i : TypeInfo} {z : Value} {size bytes : Nat} (ht : P.underlying t = some (.slice e)) (hi : P.info? e = some i) (hz : i.zero = some z) (hs : i.size = size) (hby : i.bytes = bytes) (hzs : z.cells.size = size) (hsz : 0 < size)
    {base n : Nat} {v : Value} {xs : List Value} (ho : w.ownsRow base e size v n xs) {ad : Addr} {m c : Nat} {news : List Value} (hl : Lies w w.heap.size size (some ad) m news) (hm : m ≠ 0) (h1 : ∀ u ∈ news, u.oneCell' = true) (h63 : n + m ≤ maxLen) (hb : (n + m) * bytes ≤ 140737488355328) (hbase : base ≤ w.heap.size) :
    ∃ A' c' w', (Builtin.append_ #[t, t] ty #[v, .slice (some ad) m c]).run P w = .ok (.slice A' (n + m) c') w' ∧ w'.ownsRow base e size (.slice A' (n + m) c') (n + m) (xs ++ news) ∧ w.grownBy w' v.ownBlock := by
  obtain ⟨v', w', hr, h2, h3, _, _⟩ := run_append_own_at (P := P) w base t ty e i z size bytes ht hi hz hs hby hzs hsz v n xs ho ad m c news hl.len (fun j u hu => hl.cell ad rfl hm j u hu) h1 h63 hb hbase
  obtain ⟨A', c', rfl⟩ := owned_slice h2
  exact ⟨A', c', w', hr, h2, h3⟩

theorem exec_append {P : Program} {o : Oper} {a : Act} {x y : Operand} {ts : Array TypeId} {W W' : World} {v1 v2 r : Value} (ho : o.op = .call { callee := .builtin .append, args := #[x, y], argTypes := ts }) (hx : a.eval x = v1) (hy : a.eval y = v2) (hr : (Builtin.append_ ts o.type #[v1, v2]).run P W = .ok r W') :
    (execOp a.eval o).run P W = .ok (.value r) W' := by
  unfold execOp
  simp only [ho, resolve, invoke, builtin, Sem.run_bind, Sem.run_pure, Result.andThen_ok, List.map_toArray, List.map_cons, List.map_nil, hx, hy, hr]

/-- What a shooting slot leaves. -/
def shotG (g : Gm.G) (k : Nat) (x y p : Int) : Gm.G :=
  if 0 < (g.ship k).cool then shipG g k { g.ship k with cool := (g.ship k).cool - 1 }
  else if p % 2 = 1 ∧ g.shots.length < 32 then { shipG g k { g.ship k with cool := 10 } with shots := g.shots ++ [⟨k, (g.ship k).x, (g.ship k).y, Gf.aimx x y, Gf.aimy y, 24⟩] }
  else g

theorem Has.field {b B k : Nat} {g : Gm.G} {w : World} (h : Has b B g w) {t' : Gm.Ship} {i : Nat} {u : Value} (he : ∀ s, (Gm.cells (shipG g k (g.ship k)) s).setIfInBounds i u = Gm.cells (shipG g k t') s) : Has b B (shipG g k t') (w.setCell ⟨B, i, none⟩ u) :=
  h.put rfl (fun s hB => he s ▸ (by rw [shipG, Gm.upd_self]; exact hB.put i u)) (fun j hj => heap_setCell_other _ _ j _ hj)

set_option maxRecDepth 100000 in
set_option maxHeartbeats 2000000 in
theorem shoot_cool (g : Gm.G) (b B k : Nat) (x y p : Int) (w : World) (hbB : b ≤ B) (hk : k < 8) (h : Has b B g w) (hc : 0 < (g.ship k).cool ∧ (g.ship k).cool ≤ 10) :
    Calls Tryz.prog 102 #[.pointer (some ⟨B, 0, none⟩), .int .i64 k, .agg #[.int .i8 x, .int .i8 y, .int .u8 p]] w fun e w' => (∃ v, e = .returned v) ∧ Has b B (shipG g k { g.ship k with cool := (g.ship k).cool - 1 }) w' ∧ Keep b B w w' := by
  have HH := Lib.hid (h.alloc (.cells #[.int .i8 x, .int .i8 y, .int .u8 p] 39))
  have HK := Lib.hid ((Keep.refl hbB w).alloc (.cells #[.int .i8 x, .int .i8 y, .int .u8 p] 39))
  have hr := Lib.hid (h.alloc (.cells #[.int .i8 x, .int .i8 y, .int .u8 p] 39) |>.field (k := k) (t' := { g.ship k with cool := (g.ship k).cool - 1 }) (fun s => set_cool g s k (g.ship k) hk ((g.ship k).cool - 1)))
  obtain ⟨A, c, hB, hO⟩ := HH.out
  have c0 := hB.cell
  have f0 := hB.free
  have s5 := Gm.cells_ship g (.slice A g.shots.length c) k 5 hk (by omega)
  simp only [Gm.Ship.cells, List.getElem?_cons_zero, List.getElem?_cons_succ] at s5
  have hk8 : (k : Int) < 8 := by omega
  generalize (g.ship k).cool = q at *
  have hq : IntKind.i64.wrap (q - 1) = q - 1 := by rw [IntKind.wrap_i64]; omega
  clear hB hO h
  go_enter Tryz.func102, Tryz.ntmps102
  go_wp2
  refine bodyPost_ret (results_none rfl _ _ _) rfl ?_
  exact ⟨⟨_, rfl⟩, hr.out, HK.out.put _ _⟩

set_option maxRecDepth 100000 in
set_option maxHeartbeats 2000000 in
theorem shoot_rest (g : Gm.G) (b B k : Nat) (x y p : Int) (w : World) (hbB : b ≤ B) (hk : k < 8) (h : Has b B g w) (hc : (g.ship k).cool = 0) (wp : 0 ≤ p ∧ p ≤ 255) (hp : ¬ (p % 2 = 1 ∧ g.shots.length < 32)) :
    Calls Tryz.prog 102 #[.pointer (some ⟨B, 0, none⟩), .int .i64 k, .agg #[.int .i8 x, .int .i8 y, .int .u8 p]] w fun e w' => (∃ v, e = .returned v) ∧ Has b B g w' ∧ Keep b B w w' := by
  have HH := Lib.hid (h.alloc (.cells #[.int .i8 x, .int .i8 y, .int .u8 p] 39))
  have HK := Lib.hid ((Keep.refl hbB w).alloc (.cells #[.int .i8 x, .int .i8 y, .int .u8 p] 39))
  obtain ⟨A, c, hB, hO⟩ := HH.out
  have c0 := hB.cell
  have f0 := hB.free
  have s5 := Gm.cells_ship g (.slice A g.shots.length c) k 5 hk (by omega)
  have e58 := Gm.cells_58 g (.slice A g.shots.length c)
  simp only [Gm.Ship.cells, List.getElem?_cons_zero, List.getElem?_cons_succ, hc] at s5
  have hk8 : (k : Int) < 8 := by omega
  clear hB hO h hc
  generalize g.shots.length = m at *
  by_cases hodd : p % 2 = 1
  · have hm32 : (32 : Int) ≤ m := by omega
    have hb1 : bits .and .u8 p 1 = 1 := by rw [and_one wp]; exact hodd
    clear hp hodd
    go_enter Tryz.func102, Tryz.ntmps102
    go_wp2
    refine bodyPost_ret (results_none rfl _ _ _) rfl ?_
    exact ⟨⟨_, rfl⟩, HH.out, HK.out⟩
  · have hb1 : bits .and .u8 p 1 = 0 := by rw [and_one wp]; omega
    clear hp hodd
    go_enter Tryz.func102, Tryz.ntmps102
    go_wp2
    refine bodyPost_ret (results_none rfl _ _ _) rfl ?_
    exact ⟨⟨_, rfl⟩, HH.out, HK.out⟩

set_option maxRecDepth 100000 in
set_option maxHeartbeats 1000000 in
theorem shoot_yes (g : Gm.G) (b B k : Nat) (x y p : Int) (w : World) (hbB : b ≤ B) (hk : k < 8) (h : Has b B g w) (hc : (g.ship k).cool = 0) (wx : -128 ≤ x ∧ x ≤ 127) (wy : -128 ≤ y ∧ y ≤ 127) (wp : 0 ≤ p ∧ p ≤ 255) (hp : p % 2 = 1) (hm : g.shots.length < 32) :
    Calls Tryz.prog 102 #[.pointer (some ⟨B, 0, none⟩), .int .i64 k, .agg #[.int .i8 x, .int .i8 y, .int .u8 p]] w fun e w' => (∃ v, e = .returned v) ∧ Has b B { shipG g k { g.ship k with cool := 10 } with shots := g.shots ++ [⟨k, (g.ship k).x, (g.ship k).y, Gf.aimx x y, Gf.aimy y, 24⟩] } w' ∧ Keep b B w w' := by
  have HH := Lib.hid (h.alloc (.cells #[.int .i8 x, .int .i8 y, .int .u8 p] 39))
  have HK := Lib.hid ((Keep.refl hbB w).alloc (.cells #[.int .i8 x, .int .i8 y, .int .u8 p] 39))
  obtain ⟨A, c, hB, hO⟩ := HH.out
  have c0 := hB.cell
  have f0 := hB.free
  have s5 := Gm.cells_ship g (.slice A g.shots.length c) k 5 hk (by omega)
  have s1 := Gm.cells_ship g (.slice A g.shots.length c) k 1 hk (by omega)
  have s2 := Gm.cells_ship g (.slice A g.shots.length c) k 2 hk (by omega)
  have e58 := Gm.cells_58 g (.slice A g.shots.length c)
  simp only [Gm.Ship.cells, List.getElem?_cons_zero, List.getElem?_cons_succ, hc] at s5 s1 s2
  have hk8 : (k : Int) < 8 := by omega
  have hb1 : bits .and .u8 p 1 = 1 := by rw [and_one wp]; exact hp
  have hm32 : ¬ (32 : Int) ≤ g.shots.length := by omega
  have ca := fun X => Lib.hid (fldaim_any x y p wx wy wp X)
  have BB := Lib.hid hB
  have OO := Lib.hid hO
  clear hB hO h hc hp
  go_enter Tryz.func102, Tryz.ntmps102
  go_upto_region 6 with (go_at_call 131; ((with_reducible refine ((ca _).out).mono ?_); rintro e w1 ⟨rfl, hb1'⟩; have B1 := BB.out.below hb1' BB.out.lt; have c1 := B1.cell; have f1 := B1.free; have HB1 := Lib.hid B1; have O1 := Lib.hid (own_below OO.out hb1' (Nat.le_refl _)); have K1 := Lib.hid (HK.out.call hb1'); clear B1 hb1' c0 f0))
  have ax := Gf.aimx_bd x y
  generalize hAX : Gf.aimx x y = AX at *
  generalize hAY : Gf.aimy y = AY at *
  obtain ⟨i0, hi0, hz0, hz1, hz2⟩ := info_parts shot_info
  have o1 := (O1.out.drew).alloc (.cells #[.int .i64 k, .int .i32 (g.ship k).x, .int .i32 (g.ship k).y, .int .i32 AX, .int .i32 AY, .int .i64 24] 90)
  have bsz := K1.out.size
  obtain ⟨A2, c2, w2, hrun, own2, hg2⟩ := append_runs (P := Tryz.prog) _ (ty := 26) Tryz.underlying26 hi0 hz0 hz1 hz2 rfl (by decide) o1 (c := 1) (lies_made w1.drew 90 ⟨k, (g.ship k).x, (g.ship k).y, AX, AY, 24⟩) (by decide) (shotCells_one _) (by unfold maxLen; omega) (by omega) (by have := HB1.out.lt; simp; omega)
  have B2 := grown_box HB1.out.drew O1.out.drew (by decide) hg2
  have K2 := Lib.hid (K1.out.drew.grown' O1.out.drew hg2)
  have HB2 := Lib.hid B2
  have OW := Lib.hid own2
  have f2 := B2.free
  have k2 := B2.cell
  clear o1 own2 hg2 B2 c1 f1
  refine Rp.wp_region_lex (by kernel_rfl) [] (by kernel_rfl) (· = w1.drew) (fun W => Box W B 28 (Gm.cells g (.slice A g.shots.length c))) (fun _ => True) rfl (fun W hW => ⟨hW ▸ HB1.out.drew, trivial⟩) ?_
  repeat (first
    | (apply Rp.lex_free rfl rfl; focus (intro _; go_simp; first | done | rfl))
    | (apply Rp.lex_look rfl rfl rfl rfl; focus (intro W hW; have c0 := Box.cell hW; clear hW; go_simp; first | done | rfl)))
  refine Rp.lex_make rfl (W' := w1.drew.alloc (.cells #[.int .i64 k, .int .i32 (g.ship k).x, .int .i32 (g.ship k).y, .int .i32 AX, .int .i32 AY, .int .i64 24] 90)) (v := .slice (some ⟨w1.drew.heap.size, 0, none⟩) 1 1) ?_ ⟨HB1.out.drew.alloc _, trivial⟩ ?_
  focus (go_simp; first | done | rfl)
  refine Rp.lex_make rfl (W' := w2) (v := .slice A2 (g.shots.length + 1) c2) (exec_append (x := .tmp 47) (y := .tmp 60) (v1 := .slice A g.shots.length c) (v2 := .slice (some ⟨w1.drew.heap.size, 0, none⟩) 1 1) rfl (by go_simp) (by go_simp) hrun) ⟨HB2.out, trivial⟩ ?_
  repeat (first
    | (apply Rp.lex_free rfl rfl; focus (intro _; go_simp; first | done | rfl))
    | (apply Rp.lex_look rfl rfl rfl rfl; focus (intro W hW; have c0 := Box.cell hW; clear hW; go_simp; first | done | rfl)))
  refine Rp.lex_store rfl rfl (C' := (· = w2.setCell ⟨B, 58, none⟩ (.slice A2 (g.shots.length + 1) c2))) (D' := fun _ => True) (fun W hW => ⟨_, ?_, rfl⟩) (fun _ _ => ⟨trivial, trivial⟩) ?_
  focus (subst hW; go_simp; first | done | rfl)
  refine Rp.lex_end fun W2 hW2 => ?_
  have ne2 := HB2.out.unowned OW.out (by decide)
  have H3 : Has b B { g with shots := g.shots ++ [⟨k, (g.ship k).x, (g.ship k).y, AX, AY, 24⟩] } W2 := by
    subst hW2
    refine ⟨A2, c2, ?_, ?_⟩
    · rw [show (g.shots ++ [(⟨k, (g.ship k).x, (g.ship k).y, AX, AY, 24⟩ : Gm.Shot)]).length = g.shots.length + 1 by simp]
      exact blk_shots HB2.out _
    · dsimp only
      rw [show (g.shots ++ [(⟨k, (g.ship k).x, (g.ship k).y, AX, AY, 24⟩ : Gm.Shot)]).length = g.shots.length + 1 by simp, Gm.shotCells_append]
      exact ownsRow_setCell_other (a := ⟨B, 58, none⟩) OW.out ne2 _
  have K3 : Keep b B w W2 := by subst hW2; exact K2.out.put _ _
  have R3 := Lib.hid (H3.field (k := k) (t' := { g.ship k with cool := 10 }) (u := .int .i64 10) (fun s => set_cool { g with shots := g.shots ++ [⟨k, (g.ship k).x, (g.ship k).y, AX, AY, 24⟩] } s k (g.ship k) hk 10))
  have HK3 := Lib.hid K3
  obtain ⟨G3, hG3⟩ : ∃ G : Gm.G, G = { g with shots := g.shots ++ [(⟨k, (g.ship k).x, (g.ship k).y, AX, AY, 24⟩ : Gm.Shot)] } := ⟨_, rfl⟩
  rw [← hG3] at H3
  clear hG3
  obtain ⟨A3, c3, hB3, hO3⟩ := H3
  have k3 := hB3.cell
  have f3 := hB3.free
  have z5 := Gm.cells_ship G3 (.slice A3 G3.shots.length c3) k 5 hk (by omega)
  simp only [Gm.Ship.cells, List.getElem?_cons_zero, List.getElem?_cons_succ] at z5
  clear hB3 hO3 K3 hW2 k2 f2 hrun ne2 s1 s2 s5 e58
  go_wp2
  go_end0
  exact ⟨⟨_, rfl⟩, by first | exact R3.out | (rw [hAX, hAY]; exact R3.out), HK3.out.put _ _⟩
theorem shoot_any (g : Gm.G) (b B k : Nat) (x y p : Int) (w : World) (hbB : b ≤ B) (hk : k < 8) (h : Has b B g w) (hc : 0 ≤ (g.ship k).cool ∧ (g.ship k).cool ≤ 10) (wx : -128 ≤ x ∧ x ≤ 127) (wy : -128 ≤ y ∧ y ≤ 127) (wp : 0 ≤ p ∧ p ≤ 255) :
    Calls Tryz.prog 102 #[.pointer (some ⟨B, 0, none⟩), .int .i64 k, .agg #[.int .i8 x, .int .i8 y, .int .u8 p]] w fun e w' => (∃ v, e = .returned v) ∧ Has b B (shotG g k x y p) w' ∧ Keep b B w w' := by
  unfold shotG
  by_cases h0 : 0 < (g.ship k).cool
  · rw [if_pos h0]; exact shoot_cool g b B k x y p w hbB hk h ⟨h0, hc.2⟩
  · rw [if_neg h0]
    by_cases hp : p % 2 = 1 ∧ g.shots.length < 32
    · rw [if_pos hp]; exact shoot_yes g b B k x y p w hbB hk h (by omega) wx wy wp hp.1 hp.2
    · rw [if_neg hp]; exact shoot_rest g b B k x y p w hbB hk h (by omega) wp hp
end Go.Proofs.YtiahpncglpfjeaaGreat
namespace Go.Proofs.YtiahpncglpfjeaaGreat
open Go.RowKit Go.Shelf
set_option linter.unusedVariables false
attribute [local go_sem] Oper.semAt_some
/-- A slot whose ship flies. -/
abbrev Slot (on : Nat → Bool) := { k : Nat // k < 8 ∧ on k = true }
def flies (on : Nat → Bool) : Nat → Nat → List (Slot on)
  | 0, _ => []
  | n + 1, i => if h : i < 8 ∧ on i = true then ⟨i, h⟩ :: flies on n (i + 1) else flies on n (i + 1)
theorem flies_len (on : Nat → Bool) : ∀ n i, (flies on n i).length ≤ n
  | 0, _ => Nat.le_refl _
  | n + 1, i => by
    unfold flies
    split
    · have := flies_len on n (i + 1); simp; omega
    · have := flies_len on n (i + 1); omega
theorem flies_yes {on : Nat → Bool} {n i : Nat} (h : i < 8) (ho : on i = true) : flies on (n + 1) i = ⟨i, h, ho⟩ :: flies on n (i + 1) := by
  show (if _ : _ then _ else _) = _; rw [dif_pos ⟨h, ho⟩]
theorem flies_no {on : Nat → Bool} {n i : Nat} (ho : on i = false) : flies on (n + 1) i = flies on n (i + 1) := by
  show (if _ : _ then _ else _) = _; rw [dif_neg (by simp [ho])]

abbrev slotEnc (B : Nat) (on : Nat → Bool) (x : Slot on) : Array Value := #[.int .i64 x.1, .pointer (some ⟨B, 2 + x.1 * 7, none⟩)]
/-- What the going over reads between two rounds: where the game lies, and who flies. -/
def Flying (B Bg : Nat) (on : Nat → Bool) (W : World) : Prop := W.cell? ⟨Bg, 0, none⟩ = some (.pointer (some ⟨B, 0, none⟩)) ∧ ∀ k, k < 8 → W.cell? ⟨B, 2 + k * 7, none⟩ = some (.bool (on k))
theorem Flying.below {B Bg : Nat} {on : Nat → Bool} {w W : World} (h : Flying B Bg on w) (hb : Below w.heap.size w W) : Flying B Bg on W :=
  ⟨(World.cell?_of_block (hb.block _ (World.block_lt_of_cell? w _ h.1))).trans h.1, fun k hk => (World.cell?_of_block (hb.block _ (World.block_lt_of_cell? w _ (h.2 k hk)))).trans (h.2 k hk)⟩
def FlyKp (B Bg : Nat) (on : Nat → Bool) (W W' : World) : Prop := Flying B Bg on W → Flying B Bg on W'
theorem flykp_t {B Bg : Nat} {on : Nat → Bool} {X Y Z : World} (h : FlyKp B Bg on X Y) (k : FlyKp B Bg on Y Z) : FlyKp B Bg on X Z := fun hx => k (h hx)
theorem flykp_b {B Bg : Nat} {on : Nat → Bool} {n : Nat} (W : World) (l : Nat) (o o' : Obj) (_ : n ≤ l) (h : W.heap[l]? = some o) (hc : o.isCells = false) (_ : o.isWalk = false) : FlyKp B Bg on W (W.putObj l o') := fun hf =>
  ⟨cell_kept hf.1 (grownBy_putObj' W l o') (fun r e => by cases e; exact ⟨_, h, hc⟩), fun k hk => cell_kept (hf.2 k hk) (grownBy_putObj' W l o') (fun r e => by cases e; exact ⟨_, h, hc⟩)⟩

set_option maxRecDepth 100000 in
set_option maxHeartbeats 4000000 in
theorem flying1_in (on : Nat → Bool) (B Bg : Nat) (n l : Nat) (J Jx : List (Slot on) → World → Prop)
    (hY : ∀ pre x W, J pre W → pre.length < 8 → YieldAt Fence.wide (n - 1) Tryz.prog l (slotEnc B on x) W fun e W' =>
      (e = .returned (.bool true) ∧ J (pre ++ [x]) W' ∧ FlyKp B Bg on W W') ∨ (e = .returned (.bool false) ∧ Jx (pre ++ [x]) W'))
    (W : World) (hF : Flying B Bg on W) (h0 : J [] W) :
    CallsIn Fence.wide n Tryz.prog 128 #[.func (.yield l) #[] #[], .pointer (some ⟨Bg, 0, none⟩)] W fun e W' => (∃ v, e = .returned v) ∧
      ((∃ ys, ys = flies on 8 0 ∧ J ys W') ∨ (∃ pre, (∃ rest, flies on 8 0 = pre ++ rest) ∧ Jx pre W')) := by
  refine callsIn_of_wp Tryz.func128 rfl trivial ?_ rfl
  simp only [Tryz.ntmps128, List.size_toArray, List.length_cons, List.length_nil, Nat.reduceAdd, Nat.reduceSub, Array.replicate_succ, Array.replicate_zero, List.push_toArray, List.append_toArray, List.nil_append, List.cons_append]
  gi_wp2
  gi_loopw [5] (fun p wr => ∃ (i : Nat) (pre : List (Slot on)), i ≤ 8 ∧ p = .int .i64 i ∧ flies on 8 0 = pre ++ flies on (8 - i) i ∧ Flying B Bg on wr ∧ J pre wr)
    (fun p _ => 8 - (intOf p).toNat)
  case atStart =>
    exact ⟨0, [], by omega, rfl, rfl, hF, h0⟩
  case round =>
    obtain ⟨i, pre, hi, rfl, hx, hf, hJs⟩ := hrel
    by_cases hlt : i < 8
    · have hi8 : (i : Int) < 8 := by omega
      have f0 := hf.1
      have f1 := hf.2 i hlt
      cases ho : on i
      · rw [ho] at f1
        rw [show 8 - i = (8 - (i + 1)) + 1 by omega, flies_no ho] at hx
        have HX := Lib.hid hx
        have HF := Lib.hid hf
        have HJ := Lib.hid hJs
        clear hx hf hJs hY
        gi_wp2
        refine ⟨fun _ h => (by cases h), ?_⟩
        gi_wp2
        go_roundw
        case rel => exact ⟨i + 1, pre, by omega, by go_num, HX.out, HF.out, HJ.out⟩
        case measure => simp [intOf]; omega
      · rw [ho] at f1
        rw [show 8 - i = (8 - (i + 1)) + 1 by omega, flies_yes hlt ho] at hx
        have hlen : pre.length < 8 := by
          have := flies_len on 8 0; rw [hx] at this; simp at this; omega
        obtain ⟨fn, tmps, assign, body, hy, hR⟩ := hY pre ⟨i, hlt, ho⟩ wr hJs hlen
        dsimp only [slotEnc] at hy
        have HX := Lib.hid hx
        have HF := Lib.hid hf
        clear hx hf hJs hY
        gi_wp2
        refine ⟨fun h => (by cases h), hR.mono ?_⟩
        rintro e W3 (⟨rfl, hJ3, hk3⟩ | ⟨rfl, hJx3⟩)
        · gi_wp2
          go_roundw
          case rel => exact ⟨i + 1, pre ++ [⟨i, hlt, ho⟩], by omega, by go_num, by rw [HX.out]; simp, hk3 HF.out, hJ3⟩
          case measure => simp [intOf]; omega
        · gi_wp2
          refine bodyPost_ret (results_none rfl _ _ _) rfl ?_
          exact ⟨⟨_, rfl⟩, .inr ⟨pre ++ [⟨i, hlt, ho⟩], ⟨flies on (8 - (i + 1)) (i + 1), by rw [HX.out]; simp⟩, hJx3⟩⟩
    · have hi8 : ¬ (i : Int) < 8 := by omega
      have hie : i = 8 := by omega
      subst hie
      have HX := Lib.hid (show flies on 8 0 = pre by rw [hx]; simp [flies])
      clear hx
      gi_wp2
      go_end0
      have e := HX.out
      first
        | exact ⟨⟨_, rfl⟩, .inl ⟨pre, e.symm, hJs⟩⟩
        | exact ⟨⟨_, rfl⟩, .inl (by rw [e]; exact hJs)⟩

theorem flying1_stops (on : Nat → Bool) (B Bg : Nat) (n : Nat) (w : World) (hF : Flying B Bg on w) :
    SeqStopsK Fence.wide n Tryz.prog 128 #[.pointer (some ⟨Bg, 0, none⟩)] (slotEnc B on) (FlyKp B Bg on) (fun xs => xs = flies on 8 0) (fun pre => ∃ rest, flies on 8 0 = pre ++ rest) 8 w :=
  fun l J Jx W hW _ _ hY h0 => flying1_in on B Bg n l J Jx hY W (hF.below hW) h0

/-- The going over is made. -/
theorem flying_any (B : Nat) (w : World) :
    Calls Tryz.prog 99 #[.pointer (some ⟨B, 0, none⟩)] w fun e w' => e = .returned (.func (.func 128) #[] #[.pointer (some ⟨w.heap.size, 0, none⟩)]) ∧ w' = w.alloc (.cells #[.pointer (some ⟨B, 0, none⟩)] 132) := by
  have hmf : ∀ (fn : Fn) (first cap : Array Value) (w : World), (Instr.makeFunc fn first cap).run Tryz.prog w = .ok (.func fn first cap) w := fun _ _ _ _ => rfl
  go_enter Tryz.func99, Tryz.ntmps99
  go_wp2
  go_ret
  exact ⟨rfl, rfl⟩
end Go.Proofs.YtiahpncglpfjeaaGreat
namespace Go.Proofs.YtiahpncglpfjeaaGreat
open Go.RowKit
set_option linter.unusedVariables false

theorem has_made {w w1 : World} {A : Option Addr} {n c : Nat} {g : Gm.G} (hn : n = g.shots.length) (ho : w1.ownsRow w.heap.size 90 6 (.slice A n c) n (Gm.shotCells g.shots)) : Has w.heap.size w1.heap.size g (w1.alloc (.cells (Gm.cells g (.slice A n c)) 28)) := by
  subst hn; exact ⟨A, c, Box.made _ _ _, ho.alloc _⟩
set_option maxRecDepth 100000 in
set_option maxHeartbeats 8000000 in
theorem spawn_walk (g : Gm.G) (A : Option Addr) (n c i : Nat) (x y d : Int) (w : World) (hg : Gm.ok g) (hd : 0 ≤ g.dice ∧ g.dice ≤ 18446744073709551615) (hn : n = g.shots.length) (hr : Lies w w.heap.size 6 A n (Gm.shotCells g.shots)) (hi : i < 8) (ho : (g.ship i).on = false)
    (hx : Dn.share (Dn.next g.dice) 16777216 = x) (hy : Dn.share (Dn.next (Dn.next g.dice)) 16777216 = y) (hdd : Dn.next (Dn.next g.dice) = d) :
    Calls Tryz.prog 96 #[.agg (Gm.cells g (.slice A n c)), .int .i64 i] w (Out { g with dice := d, ship := Gm.upd g.ship i ⟨true, x, y, 0, 0, 0, 0⟩ } 0 w) := by
  have b1 : Box ((w.alloc (.cells (Gm.cells g (.slice A n c)) 28)).alloc (.cells (Gm.cells zeroG (.slice none 0 0)) 28)) w.heap.size 28 (Gm.cells g (.slice A n c)) := (Box.made _ _ _).alloc _
  have b2 : Box ((w.alloc (.cells (Gm.cells g (.slice A n c)) 28)).alloc (.cells (Gm.cells zeroG (.slice none 0 0)) 28)) (w.heap.size + 1) 28 (Gm.cells zeroG (.slice none 0 0)) := Box.made_at _ _ _ (by simp)
  have hb0 := two_below' w (.cells (Gm.cells g (.slice A n c)) 28) (.cells (Gm.cells zeroG (.slice none 0 0)) 28)
  have co := Lib.hid (own_any g A n c _ hn (by have := hg.2.2.1; omega) ((hr.below hb0).wider hb0.size))
  have cm := fun X (hX : Below w.heap.size w X) => Lib.hid (may_yes g A n c X hg hn ((hr.below hX).wider hX.size))
  have cs := fun X => Lib.hid (isslot_any i (by omega) X)
  rw [decide_eq_true (show (0 : Int) ≤ i by omega), decide_eq_true (show (i : Int) < 8 by omega), Bool.and_self] at cs
  have cp := fun B X (hX : Has w.heap.size B g X) (hB : w.heap.size ≤ B) => Lib.hid (place_walk g w.heap.size B 0 x y d X hB hX hd hx hy hdd)
  have q0 : (Gm.cells g (.slice A n c))[2 + i * 7]? = some (.bool false) := (Gm.cells_ship g _ i 0 hi (by omega)).trans (by show some (Value.bool (g.ship i).on) = _; rw [ho])
  obtain ⟨t, ht⟩ : ∃ t, t = g.ship i := ⟨_, rfl⟩
  have r0 : ∀ s, (Gm.cells { g with dice := d } s)[2 + i * 7]? = some (.bool t.on) := fun s => (Gm.cells_ship { g with dice := d } s i 0 hi (by omega)).trans (by rw [ht]; rfl)
  have r1 : ∀ s, (Gm.cells { g with dice := d } s)[2 + i * 7 + 1]? = some (.int .i32 t.x) := fun s => (Gm.cells_ship { g with dice := d } s i 1 hi (by omega)).trans (by rw [ht]; rfl)
  have r2 : ∀ s, (Gm.cells { g with dice := d } s)[2 + i * 7 + 2]? = some (.int .i32 t.y) := fun s => (Gm.cells_ship { g with dice := d } s i 2 hi (by omega)).trans (by rw [ht]; rfl)
  have r3 : ∀ s, (Gm.cells { g with dice := d } s)[2 + i * 7 + 3]? = some (.int .i32 t.vx) := fun s => (Gm.cells_ship { g with dice := d } s i 3 hi (by omega)).trans (by rw [ht]; rfl)
  have r4 : ∀ s, (Gm.cells { g with dice := d } s)[2 + i * 7 + 4]? = some (.int .i32 t.vy) := fun s => (Gm.cells_ship { g with dice := d } s i 4 hi (by omega)).trans (by rw [ht]; rfl)
  have r5 : ∀ s, (Gm.cells { g with dice := d } s)[2 + i * 7 + 5]? = some (.int .i64 t.cool) := fun s => (Gm.cells_ship { g with dice := d } s i 5 hi (by omega)).trans (by rw [ht]; rfl)
  have r6 : ∀ s, (Gm.cells { g with dice := d } s)[2 + i * 7 + 6]? = some (.int .i64 t.score) := fun s => (Gm.cells_ship { g with dice := d } s i 6 hi (by omega)).trans (by rw [ht]; rfl)
  have hi8 : (i : Int) < 8 := by omega
  have hN := Lib.hid hn
  have HB := Lib.hid hb0
  have B1 := Lib.hid b1
  have B2 := Lib.hid b2
  clear hr hn b1 b2 hb0 ht hx hy hdd ho hg
  go_enter Tryz.func96, Tryz.ntmps96
  go_upto_region 5 with (first | (refine wpList_alloc_game rfl rfl ?_) | ((with_reducible refine load_gate rfl rfl ?_); apply LoadGame.mk rfl; (with_reducible exact B1.out)) | ((with_reducible refine load_gate rfl rfl ?_); apply LoadGame.mk rfl; (with_reducible exact D1.out)) | ((with_reducible refine load_gate rfl rfl ?_); apply LoadGame.mk rfl; exact F1.out) | (go_at_call 98; ((with_reducible refine (co.out).mono ?_); rintro e w1 ⟨A1, c1, rfl, ho1, hb1⟩; have HB1 := Lib.hid ((HB.out.trans (hb1.mono HB.out.size)).alloc (by have := hb1.size; simp at this; omega) (.cells (Gm.cells g (.slice A1 n c1)) 28)); have H1 := Lib.hid (has_made (w := w) hN.out (own_rebase ho1 (by simp; omega))); have D1 := Lib.hid ((B1.out.below hb1 (by simp <;> omega)).alloc (.cells (Gm.cells g (.slice A1 n c1)) 28)); have D2 := Lib.hid ((B2.out.below hb1 (by simp <;> omega)).alloc (.cells (Gm.cells g (.slice A1 n c1)) 28)); have s1 : w.heap.size + 1 < w1.heap.size := (by have := hb1.size; simp at this; omega); clear ho1 hb1)) | (refine wpList_store_game_new rfl rfl rfl rfl rfl rfl ?_) | (go_at_call 24; ((with_reducible refine ((cm _ HB1.out).out).mono ?_); rintro e w2 ⟨rfl, hb2⟩; have HB2 := Lib.hid (HB1.out.trans (hb2.mono HB1.out.size)); have H2 := Lib.hid (H1.out.call hb2); have E1 := (D1.out.below hb2 D1.out.lt).cell; have E2 := Lib.hid (D2.out.below hb2 D2.out.lt); clear hb2)) | (go_at_call 91; ((with_reducible refine ((cs _).out).mono ?_); rintro e w' ⟨rfl, rfl⟩)) | (go_at_call 126; ((with_reducible refine ((cp _ _ H2.out (by omega)).out).mono ?_); rintro e w3 ⟨rfl, H3, K3⟩; have ne2 : w.heap.size + 1 ≠ w1.heap.size := (by omega); obtain ⟨A3, c3, hB3, hO3⟩ := H3; have k3 := hB3.cell; have f3 := hB3.free; have G2 := Lib.hid (stored_far (B := w1.heap.size) (k := i) (E2.out.keep K3 ne2 (by decide)) ne2 ⟨true, x, y, 0, 0, 0, 0⟩); have F1 := Lib.hid (blk_ship hB3 hi ⟨true, x, y, 0, 0, 0, 0⟩); have hO3H := Lib.hid (stored_own hO3 (hB3.unowned hO3 (by decide)) ⟨true, x, y, 0, 0, 0, 0⟩ (B := w1.heap.size) (k := i)); have KK := Lib.hid (stored_below (B := w1.heap.size) (k := i) (HB2.out.trans ((K3.to HB2.out.size))) (by omega) ⟨true, x, y, 0, 0, 0, 0⟩); clear hB3 hO3 K3)) | ((with_reducible refine store_gate rfl rfl ?_); apply StoreGame.mk rfl rfl rfl; exact G2.out))
  go_wp2_with (first | ((with_reducible refine load_gate rfl rfl ?_); apply LoadGame.mk rfl; exact F1.out) | ((with_reducible refine store_gate rfl rfl ?_); apply StoreGame.mk rfl rfl rfl; exact G2.out))
  refine bodyPost_ret (v := .tuple #[.agg (Gm.cells { g with dice := d, ship := Gm.upd g.ship i ⟨true, x, y, 0, 0, 0, 0⟩ } (.slice A3 g.shots.length c3)), .int .i64 0]) ?_ ?_ ?_
  · have hh := results_cell_tmp (P := Tryz.prog) (fn := Tryz.f96) (p := 4) (q := 5) rfl
    exact hh _ _ _ _ (Gm.cells { g with dice := d, ship := Gm.upd g.ship i ⟨true, x, y, 0, 0, 0, 0⟩ } (.slice A3 g.shots.length c3)) _ rfl (Box.row G2.out _) Tryz.underlying28 rfl game_info
  · rfl
  · refine ⟨A3, c3, rfl, ?_, ?_⟩
    · exact Lies.owned (own_setRow hO3H.out (G2.out.unowned hO3H.out (by decide)) _)
    · exact Below.setRow' KK.out (by omega) _
theorem spawn_yes (g : Gm.G) (A : Option Addr) (n c i : Nat) (w : World) (hg : Gm.ok g) (hd : 0 ≤ g.dice ∧ g.dice ≤ 18446744073709551615) (hn : n = g.shots.length) (hr : Lies w w.heap.size 6 A n (Gm.shotCells g.shots)) (hi : i < 8) (ho : (g.ship i).on = false) :
    Calls Tryz.prog 96 #[.agg (Gm.cells g (.slice A n c)), .int .i64 i] w (Out (Gm.spawn g i) 0 w) :=
  spawn_walk g A n c i _ _ _ w hg hd hn hr hi ho rfl rfl rfl

end Go.Proofs.YtiahpncglpfjeaaGreat
namespace Go.Proofs.YtiahpncglpfjeaaGreat
open Go.RowKit Go.Shelf
set_option linter.unusedVariables false
attribute [local go_sem] Oper.semAt_some
/-- A frame for slot k. -/
def stepOne (ps : Nat → Gm.In) (g : Gm.G) (k : Nat) : Gm.G := { g with ship := Gm.upd g.ship k (Gm.moved (ps k) g.shots.length (g.ship k)), shots := g.shots ++ Gm.made (ps k) g.shots.length k (g.ship k) }
def over (ps : Nat → Gm.In) {on : Nat → Bool} (g : Gm.G) (pre : List (Slot on)) : Gm.G := pre.foldl (fun g x => stepOne ps g x.1) g
theorem over_snoc (ps : Nat → Gm.In) {on : Nat → Bool} (g : Gm.G) (pre : List (Slot on)) (x : Slot on) : over ps g (pre ++ [x]) = stepOne ps (over ps g pre) x.1 := by
  unfold over; rw [List.foldl_append]; rfl
/-- What holds of a game on the way; the ships of on fly, and no other. -/
structure Fit (on : Nat → Bool) (g : Gm.G) : Prop where
  ships : ∀ i, i < 8 → Gm.okShip (g.ship i)
  shots : ∀ t ∈ g.shots, Gm.okShot t
  len : g.shots.length ≤ 32
  flags : ∀ i, i < 8 → (g.ship i).on = on i
theorem moved_on (p : Gm.In) (n : Nat) (s : Gm.Ship) : (Gm.moved p n s).on = s.on := by
  unfold Gm.moved; split
  · rename_i h; rw [h]
  · rfl
theorem stepOne_fit {on : Nat → Bool} {ps : Nat → Gm.In} {g : Gm.G} {k : Nat} (h : Fit on g) (hk : k < 8) : Fit on (stepOne ps g k) := by
  refine ⟨fun i hi => ?_, fun t ht => ?_, ?_, fun i hi => ?_⟩
  · by_cases e : i = k
    · subst e; show Gm.okShip (Gm.upd _ _ _ _); rw [Gm.upd_same]; exact Gm.moved_ok (h.ships _ hi)
    · show Gm.okShip (Gm.upd _ _ _ _); rw [Gm.upd_other _ _ e]; exact h.ships _ hi
  · rcases List.mem_append.1 (show t ∈ g.shots ++ Gm.made (ps k) g.shots.length k (g.ship k) from ht) with ht | ht
    · exact h.shots _ ht
    · exact Gm.made_ok (by omega) _ ht
  · show (g.shots ++ Gm.made (ps k) g.shots.length k (g.ship k)).length ≤ 32
    have := Gm.made_len (ps k) g.shots.length k (g.ship k)
    have := h.len
    rw [List.length_append]; omega
  · by_cases e : i = k
    · subst e; show (Gm.upd _ _ _ _).on = _; rw [Gm.upd_same, moved_on]; exact h.flags _ hi
    · show (Gm.upd _ _ _ _).on = _; rw [Gm.upd_other _ _ e]; exact h.flags _ hi
theorem over_fit {on : Nat → Bool} {ps : Nat → Gm.In} {g : Gm.G} (h : Fit on g) : ∀ pre : List (Slot on), Fit on (over ps g pre) := by
  intro pre
  unfold over
  induction pre generalizing g with
  | nil => exact h
  | cons x pre ih => exact ih (stepOne_fit h x.2.1)
theorem over_from {on : Nat → Bool} (ps : Nat → Gm.In) (g : Gm.G) (hon : ∀ i, i < 8 → (g.ship i).on = on i) : ∀ n i, i + n = 8 →
    over ps { g with ship := (Gm.ph1 ps g i).1, shots := (Gm.ph1 ps g i).2 } (flies on n i) = { g with ship := (Gm.ph1 ps g 8).1, shots := (Gm.ph1 ps g 8).2 }
  | 0, i, h => by obtain rfl : i = 8 := by omega
                  rfl
  | n + 1, i, h => by
    have ih := over_from ps g hon n (i + 1) (by omega)
    cases ho : on i
    · rw [flies_no ho, ← ih]
      have e := Gm.next_off (p := ps i) (n := (Gm.ph1 ps g i).2.length) (i := i) (s := (Gm.ph1 ps g i).1 i) (by rw [Gm.ph1_later ps g i i (Nat.le_refl _), hon i (by omega), ho])
      have e0 : Gm.ph1 ps g (i + 1) = Gm.ph1 ps g i := by
        show (Gm.upd _ i _, _ ++ _) = _
        rw [e.1, e.2, Gm.upd_self, List.append_nil]
      rw [e0]
    · rw [flies_yes (by omega) ho, ← ih]
      rfl
theorem over_all {on : Nat → Bool} (ps : Nat → Gm.In) (g : Gm.G) (hon : ∀ i, i < 8 → (g.ship i).on = on i) : over ps g (flies on 8 0) = { g with ship := (Gm.ph1 ps g 8).1, shots := (Gm.ph1 ps g 8).2 } :=
  over_from ps g hon 8 0 rfl
theorem upd_twice (f : Nat → Gm.Ship) (k : Nat) (s t : Gm.Ship) : Gm.upd (Gm.upd f k s) k t = Gm.upd f k t := funext fun j => by
  unfold Gm.upd; split <;> rfl
/-- Steered and shot: that is a frame for a slot. -/
theorem shot_step (ps : Nat → Gm.In) (g : Gm.G) (k : Nat) (hon : (g.ship k).on = true) (hc : 0 ≤ (g.ship k).cool) :
    shotG (shipG g k (steered (g.ship k) (Gf.tame (ps k).x) (Gf.tame (ps k).y))) k (Gf.tame (ps k).x) (Gf.tame (ps k).y) (ps k).b = stepOne ps g k := by
  unfold shotG stepOne
  have e1 : (shipG g k (steered (g.ship k) (Gf.tame (ps k).x) (Gf.tame (ps k).y))).ship k = steered (g.ship k) (Gf.tame (ps k).x) (Gf.tame (ps k).y) := Gm.upd_same _ _ _
  rw [e1]
  have e2 : (steered (g.ship k) (Gf.tame (ps k).x) (Gf.tame (ps k).y)).cool = (g.ship k).cool := rfl
  rw [e2]
  have e3 : (steered (g.ship k) (Gf.tame (ps k).x) (Gf.tame (ps k).y)).on = true := hon
  by_cases h0 : 0 < (g.ship k).cool
  · rw [if_pos h0]
    have e := Gm.next_cool (p := ps k) (n := g.shots.length) (i := k) hon h0
    rw [e.1, e.2, List.append_nil]
    show { g with ship := Gm.upd (Gm.upd g.ship k _) k _ } = _
    rw [upd_twice]
    dsimp only [steered]
    rw [hon]; rfl
  · rw [if_neg h0]
    have hc0 : (g.ship k).cool = 0 := by omega
    by_cases hp : (ps k).b % 2 = 1 ∧ (shipG g k (steered (g.ship k) (Gf.tame (ps k).x) (Gf.tame (ps k).y))).shots.length < 32
    · rw [if_pos hp]
      have e := Gm.next_shot (p := ps k) (n := g.shots.length) (i := k) hon hc0 (by unfold Gm.shoots; simp; exact ⟨by omega, hp.1, hp.2⟩)
      rw [e.1, e.2]
      show ({ g with ship := Gm.upd (Gm.upd g.ship k _) k _, shots := _ } : Gm.G) = _
      rw [upd_twice]
      dsimp only [steered]
      rw [hon]; rfl
    · rw [if_neg hp]
      have e := Gm.next_rest (p := ps k) (n := g.shots.length) (i := k) hon hc0 (by
        unfold Gm.shoots
        cases h : (decide ((g.ship k).cool ≤ 0) && (decide ((ps k).b % 2 = 1) && decide (g.shots.length < 32)))
        · rfl
        · simp at h; exact absurd ⟨h.2.1, h.2.2⟩ hp)
      rw [e.1, e.2, List.append_nil]
      show ({ g with ship := Gm.upd g.ship k _ } : Gm.G) = _
      congr 2
      show steered (g.ship k) _ _ = _
      unfold steered
      rw [hon, hc0]; rfl

theorem Has.turned {b B : Nat} {g : Gm.G} {W W' : World} {row : Option Nat} (h : Has b B g W) (hg : W.grownBy W' row) (hr : ∀ r, row = some r → ∃ o : Obj, W.heap[r]? = some o ∧ o.isCells = false) : Has b B g W' := by
  obtain ⟨A, c, h, hl, h' | ⟨gg, cap, cur, hv, hbg, hgg, hx⟩⟩ := h
  · exact ⟨A, c, h.turned hg hr, hl, .inl h'⟩
  · exact ⟨A, c, h.turned hg hr, hl, .inr ⟨gg, cap, cur, hv, hbg, (Box.turned ⟨hgg⟩ hg hr).is, hx⟩⟩
theorem Keep.others {b B : Nat} {w w' : World} {t : TypeId} {cs : Array Value} (h : Keep b B w w') (hB : Box w B t cs) : KeepsOthers w w' :=
  ⟨h.size, fun k o hk ho => (h.block k (Array.getElem?_eq_some_iff.1 hk).1 (.inr ⟨fun e => (by subst e; rw [hB.is] at hk; injection hk with hk; subst hk; cases ho), fun cs e => (by rw [hk] at e; injection e with e; subst e; cases ho)⟩)).trans hk⟩
theorem Has.flags {b B : Nat} {g : Gm.G} {W : World} (h : Has b B g W) (k : Nat) (hk : k < 8) : W.cell? ⟨B, 2 + k * 7, none⟩ = some (.bool (g.ship k).on) := by
  obtain ⟨A, c, h, _⟩ := h
  exact (h.cell _).trans (Gm.cells_ship _ _ k 0 hk (by omega))

/-- What the ships' part finds. -/
structure Mid (b Bn Bi Br Bg : Nat) (ps : Nat → Gm.In) (w0 : World) (g : Gm.G) (W : World) : Prop where
  has : Has b Bn g W
  ins : Box W Bi 40 (Gm.insCells ps).toArray
  res : Box W Br 28 (Gm.cells zeroG (.slice none 0 0))
  fly : Box W Bg 132 #[.pointer (some ⟨Bn, 0, none⟩)]
  below : Below b w0 W
theorem Mid.turned {b Bn Bi Br Bg : Nat} {ps : Nat → Gm.In} {w0 : World} {g : Gm.G} {W W' : World} {row : Option Nat} (h : Mid b Bn Bi Br Bg ps w0 g W) (hb : b ≤ w0.heap.size) (hg : W.grownBy W' row) (hr : ∀ r, row = some r → b ≤ r ∧ ∃ o : Obj, W.heap[r]? = some o ∧ o.isCells = false) : Mid b Bn Bi Br Bg ps w0 g W' :=
  ⟨h.has.turned hg fun r e => (hr r e).2, h.ins.turned hg fun r e => (hr r e).2, h.res.turned hg fun r e => (hr r e).2, h.fly.turned hg fun r e => (hr r e).2, h.below.grown hg (Nat.le_trans hb h.below.size) fun k e => (hr k e).1⟩
theorem Mid.kept {b Bn Bi Br Bg : Nat} {ps : Nat → Gm.In} {w0 : World} {g g' : Gm.G} {W W' : World} (h : Mid b Bn Bi Br Bg ps w0 g W) (hb : b ≤ w0.heap.size) (hn : Br ≠ Bn) (hh : Has b Bn g' W') (hk : Keep b Bn W W') : Mid b Bn Bi Br Bg ps w0 g' W' := by
  obtain ⟨A, c, hB, _⟩ := h.has
  exact ⟨hh, h.ins.keep hk (Box.apart h.ins hB (by decide)) (by decide), h.res.keep hk hn (by decide), h.fly.keep hk (Box.apart h.fly hB (by decide)) (by decide), h.below.trans (hk.to (Nat.le_trans hb h.below.size))⟩
end Go.Proofs.YtiahpncglpfjeaaGreat
namespace Go.Proofs.YtiahpncglpfjeaaGreat
open Go.RowKit Go.Shelf
set_option linter.unusedVariables false

/-- A game lies in block B; its shots are the slice of A, with room for c. -/
structure HasAt (b B : Nat) (A : Option Addr) (c : Nat) (g : Gm.G) (w : World) : Prop where
  game : Box w B 28 (Gm.cells g (.slice A g.shots.length c))
  own : w.ownsRow b 90 6 (.slice A g.shots.length c) g.shots.length (Gm.shotCells g.shots)
section
variable {b B c : Nat} {A : Option Addr} {g g' : Gm.G} {w w' : World}
theorem HasAt.has (h : HasAt b B A c g w) : Has b B g w := ⟨A, c, h.game, h.own⟩
theorem HasAt.alloc (h : HasAt b B A c g w) (o : Obj) : HasAt b B A c g (w.alloc o) := ⟨h.game.alloc o, h.own.alloc o⟩
theorem HasAt.drew (h : HasAt b B A c g w) : HasAt b B A c g w.drew := ⟨h.game.drew, h.own.drew⟩
theorem HasAt.call (h : HasAt b B A c g w) (hb : Below w.heap.size w w') : HasAt b B A c g w' := ⟨h.game.below hb h.game.lt, own_below h.own hb (Nat.le_refl _)⟩
theorem HasAt.offRow {p : Nat} {t : TypeId} {cs : Array Value} (h : HasAt b B A c g w) (hne : p ≠ B) (hp : Box w p t cs) (ht : t ≠ 90) (cs' : Array Value) : HasAt b B A c g (w.setRow p cs') :=
  ⟨h.game.row_far (fun e => hne e.symm) cs', own_setRow h.own (hp.unowned h.own (fun e => ht e.symm)) cs'⟩
theorem HasAt.off {p : Addr} {t : TypeId} {cs : Array Value} (h : HasAt b B A c g w) (hne : p.block ≠ B) (hp : Box w p.block t cs) (ht : t ≠ 90) (u : Value) : HasAt b B A c g (w.setCell p u) :=
  ⟨h.game.far (fun e => hne e.symm) u, ownsRow_setCell_other h.own (hp.unowned h.own (fun e => ht e.symm)) u⟩
theorem HasAt.put (h : HasAt b B A c g w) (hs : g'.shots = g.shots) (hB : ∀ s, Box w B 28 (Gm.cells g s) → Box w' B 28 (Gm.cells g' s)) (hk : ∀ k, k ≠ B → w'.heap[k]? = w.heap[k]?) : HasAt b B A c g' w' := by
  obtain ⟨h, h'⟩ := h
  refine ⟨by rw [hs]; exact hB _ h, ?_⟩
  rw [hs]
  have hne := h.unowned h' (by decide)
  obtain ⟨hl, e | ⟨gg, cap, cur, hv, hbg, hgg, hr⟩⟩ := h'
  · exact ⟨hl, .inl e⟩
  · refine ⟨hl, .inr ⟨gg, cap, cur, hv, hbg, (hk gg (fun e => hne (by rw [hv, e]; rfl))).trans hgg, hr⟩⟩
theorem HasAt.stored (h : HasAt b B A c g w) {k : Nat} (hk : k < 8) (s : Gm.Ship) : HasAt b B A c { g with ship := Gm.upd g.ship k s } (stored w B k s) :=
  h.put rfl (fun _ hB => blk_ship hB hk s) (fun j hj => stored_else s j hj)
theorem HasAt.field {k : Nat} (h : HasAt b B A c g w) {t' : Gm.Ship} {i : Nat} {u : Value} (he : ∀ s, (Gm.cells (shipG g k (g.ship k)) s).setIfInBounds i u = Gm.cells (shipG g k t') s) : HasAt b B A c (shipG g k t') (w.setCell ⟨B, i, none⟩ u) :=
  h.put rfl (fun s hB => he s ▸ (by rw [shipG, Gm.upd_self]; exact hB.put i u)) (fun j hj => heap_setCell_other _ _ j _ hj)
end

set_option maxRecDepth 100000 in
set_option maxHeartbeats 1000000 in
theorem place_at (g : Gm.G) (b B : Nat) (A : Option Addr) (c : Nat) (sc : Int) (x y d : Int) (w : World) (hbB : b ≤ B) (h : HasAt b B A c g w) (hd : 0 ≤ g.dice ∧ g.dice ≤ 18446744073709551615)
    (hx : Dn.share (Dn.next g.dice) 16777216 = x) (hy : Dn.share (Dn.next (Dn.next g.dice)) 16777216 = y) (hdd : Dn.next (Dn.next g.dice) = d) :
    Calls Tryz.prog 126 #[.pointer (some ⟨B, 0, none⟩), .int .i64 sc] w fun e w' => e = .returned (.agg #[.bool true, .int .i32 x, .int .i32 y, .int .i32 0, .int .i32 0, .int .i64 0, .int .i64 sc]) ∧ HasAt b B A c { g with dice := d } w' ∧ Keep b B w w' := by
  have c1 := fun X => Lib.hid (place_any g.dice hd X)
  rw [hx, hy, hdd] at c1
  have HH := Lib.hid (h.alloc (.cells #[.bool false, .int .i32 0, .int .i32 0, .int .i32 0, .int .i32 0, .int .i64 0, .int .i64 0] 24))
  have HK := Lib.hid ((Keep.refl hbB w).alloc (.cells #[.bool false, .int .i32 0, .int .i32 0, .int .i32 0, .int .i32 0, .int .i64 0, .int .i64 0] 24))
  have hBs := h.game.lt
  have bT : Box (w.alloc (.cells #[.bool false, .int .i32 0, .int .i32 0, .int .i32 0, .int .i32 0, .int .i64 0, .int .i64 0] 24)) w.heap.size 24 #[.bool false, .int .i32 0, .int .i32 0, .int .i32 0, .int .i32 0, .int .i64 0, .int .i64 0] := Box.made _ _ _
  have BT := Lib.hid bT
  have BG := Lib.hid (h.game.alloc (.cells #[.bool false, .int .i32 0, .int .i32 0, .int .i32 0, .int .i32 0, .int .i64 0, .int .i64 0] 24))
  have hc := BG.out.cell
  have e1 := Gm.cells_1 g (.slice A g.shots.length c)
  clear bT h hx hy hdd
  go_enter Tryz.func126, Tryz.ntmps126
  go_wp2_with (first | (go_at_call 141; ((with_reducible refine ((c1 _).out).mono ?_); rintro e w1 ⟨rfl, hb⟩; have D1 := BG.out.below hb (by simp <;> omega); have T1 := BT.out.below hb (by simp <;> omega); have k1 := D1.cell; have f1 := D1.free; have H1 := Lib.hid (HH.out.call hb); have K1 := Lib.hid ((HK.out.call hb).put 1 (.int .u64 d)); have ne1 : w.heap.size ≠ B := (by omega); have T2 := Lib.hid (T1.far (p := ⟨B, 1, none⟩) ne1 (.int .u64 d)); clear D1 T1 hb ne1)) | (refine wpList_build_is rfl (t := 24) (vs := [(0, .bool true), (1, .int .i32 x), (2, .int .i32 y), (6, .int .i64 sc)]) rfl rfl (built_ship _ _ _) ?_) | ((with_reducible refine blk_gate (t := 24) rfl rfl ship7_info ?_); apply StoreBlk.mk rfl rfl; exact T2.out; (focus (simp [Value.oneCell'])); (focus rfl); (focus rfl)))
  refine bodyPost_ret (v := .agg #[.bool true, .int .i32 x, .int .i32 y, .int .i32 0, .int .i32 0, .int .i64 0, .int .i64 sc]) ?_ ?_ ?_
  · exact results_cell_row rfl _ _ _ _ #[.bool true, .int .i32 x, .int .i32 y, .int .i32 0, .int .i32 0, .int .i64 0, .int .i64 sc] (0, 0) _ rfl (Box.row T2.out _).is Tryz.underlying24 rfl ship7_info
  · rfl
  · refine ⟨rfl, ?_, K1.out.freshRow (Nat.le_refl _) _⟩
    have h2 : HasAt b B A c { g with dice := d } (w1.setCell ⟨B, 1, none⟩ (.int .u64 d)) := H1.out.put rfl (fun _ hB => blk_dice hB d) (fun j hj => heap_setCell_other _ _ j _ hj)
    exact h2.offRow (by omega) T2.out (by decide) _

set_option maxRecDepth 100000 in
set_option maxHeartbeats 4000000 in
theorem hit_walk (g : Gm.G) (b B : Nat) (A : Option Addr) (c kh o : Nat) (x y d : Int) (w : World) (hbB : b ≤ B) (hk : kh < 8) (ho : o < 8) (h : HasAt b B A c g w) (hd : 0 ≤ g.dice ∧ g.dice ≤ 18446744073709551615) (hs : ∀ i, i < 8 → 0 ≤ (g.ship i).score ∧ (g.ship i).score ≤ 1073741824)
    (hx : Dn.share (Dn.next g.dice) 16777216 = x) (hy : Dn.share (Dn.next (Dn.next g.dice)) 16777216 = y) (hdd : Dn.next (Dn.next g.dice) = d) :
    Calls Tryz.prog 133 #[.pointer (some ⟨B, 0, none⟩), .pointer (some ⟨B, 2 + kh * 7, none⟩), .int .i64 o] w fun e w' => e = .returned (.tuple #[]) ∧ HasAt b B A c { g with dice := d, ship := Gm.more (Gm.upd g.ship kh ⟨true, x, y, 0, 0, 0, (g.ship kh).score⟩) o } w' ∧ Keep b B w w' := by
  have cp := fun sc X (hX : HasAt b B A c g X) => Lib.hid (place_at g b B A c sc x y d X hbB hX hd hx hy hdd)
  have hc := h.game.cell
  have s6 := Gm.cells_ship g (.slice A g.shots.length c) kh 6 hk (by omega)
  simp only [Gm.Ship.cells, List.getElem?_cons_zero, List.getElem?_cons_succ] at s6
  obtain ⟨t, ht⟩ : ∃ t, t = g.ship kh := ⟨_, rfl⟩
  have q0 : ∀ s, (Gm.cells { g with dice := d } s)[2 + kh * 7]? = some (.bool t.on) := fun s => (Gm.cells_ship { g with dice := d } s kh 0 hk (by omega)).trans (by rw [ht]; rfl)
  have q1 : ∀ s, (Gm.cells { g with dice := d } s)[2 + kh * 7 + 1]? = some (.int .i32 t.x) := fun s => (Gm.cells_ship { g with dice := d } s kh 1 hk (by omega)).trans (by rw [ht]; rfl)
  have q2 : ∀ s, (Gm.cells { g with dice := d } s)[2 + kh * 7 + 2]? = some (.int .i32 t.y) := fun s => (Gm.cells_ship { g with dice := d } s kh 2 hk (by omega)).trans (by rw [ht]; rfl)
  have q3 : ∀ s, (Gm.cells { g with dice := d } s)[2 + kh * 7 + 3]? = some (.int .i32 t.vx) := fun s => (Gm.cells_ship { g with dice := d } s kh 3 hk (by omega)).trans (by rw [ht]; rfl)
  have q4 : ∀ s, (Gm.cells { g with dice := d } s)[2 + kh * 7 + 4]? = some (.int .i32 t.vy) := fun s => (Gm.cells_ship { g with dice := d } s kh 4 hk (by omega)).trans (by rw [ht]; rfl)
  have q5 : ∀ s, (Gm.cells { g with dice := d } s)[2 + kh * 7 + 5]? = some (.int .i64 t.cool) := fun s => (Gm.cells_ship { g with dice := d } s kh 5 hk (by omega)).trans (by rw [ht]; rfl)
  have q6 : ∀ s, (Gm.cells { g with dice := d } s)[2 + kh * 7 + 6]? = some (.int .i64 t.score) := fun s => (Gm.cells_ship { g with dice := d } s kh 6 hk (by omega)).trans (by rw [ht]; rfl)
  have ho8 : (o : Int) < 8 := by omega
  have HH := Lib.hid h
  generalize hsc : (g.ship kh).score = sc at s6 ⊢
  clear h ht hx hy hdd
  go_enter Tryz.func133, Tryz.ntmps133
  go_upto_region 1 with (go_at_call 126; ((with_reducible refine ((cp _ _ HH.out).out).mono ?_); rintro e w1 ⟨rfl, H1, K1⟩; have hB1 := H1.game; have c1 := hB1.cell; have f1 := hB1.free; have H2 := Lib.hid (H1.stored hk ⟨true, x, y, 0, 0, 0, sc⟩); have K2 := Lib.hid (K1.stored (k := kh) ⟨true, x, y, 0, 0, 0, sc⟩); clear H1 K1 hB1 hc))
  have hgen : ∀ W : World, W = stored w1 B kh ⟨true, x, y, 0, 0, 0, sc⟩ → HasAt b B A c { g with dice := d, ship := Gm.upd g.ship kh ⟨true, x, y, 0, 0, 0, sc⟩ } W ∧ Keep b B w W := fun W hW => by subst hW; exact ⟨H2.out, K2.out⟩
  obtain ⟨W2, hW2⟩ : ∃ W2, W2 = stored w1 B kh ⟨true, x, y, 0, 0, 0, sc⟩ := ⟨_, rfl⟩
  have hh2 := hgen W2 hW2
  simp only [stored] at hW2
  rw [← hW2]
  obtain ⟨H3, K3⟩ := hh2
  have hs3 : ∀ i, i < 8 → 0 ≤ (Gm.upd g.ship kh ⟨true, x, y, 0, 0, 0, sc⟩ i).score ∧ (Gm.upd g.ship kh ⟨true, x, y, 0, 0, 0, sc⟩ i).score ≤ 1073741824 := fun i hi => by
    have h1 := hs i hi
    have h2 := hs kh hk
    unfold Gm.upd; split
    · dsimp only; rw [← hsc]; exact h2
    · exact h1
  generalize hF : Gm.upd g.ship kh ⟨true, x, y, 0, 0, 0, sc⟩ = F at H3 hs3
  have FH := Lib.hid hF
  have sco := hs3 o ho
  have r0 := Gm.cells_ship { g with dice := d, ship := F } (.slice A g.shots.length c) o 0 ho (by omega)
  have r6 := Gm.cells_ship { g with dice := d, ship := F } (.slice A g.shots.length c) o 6 ho (by omega)
  simp only [Gm.Ship.cells, List.getElem?_cons_zero, List.getElem?_cons_succ, Nat.add_zero] at r0 r6
  have hsco := Lib.hid (fun u => H3.field (k := o) (t' := { F o with score := u }) (fun s => set_score { g with dice := d, ship := F } s o (F o) ho u))
  have H3H := Lib.hid H3
  have K3H := Lib.hid K3
  have k3 := H3.game.cell
  have f3 := H3.game.free
  have FF : Hid (Gm.more F o = if (F o).on = true then Gm.upd F o { F o with score := min ((F o).score + 1) 1073741824 } else F) := Lib.hid rfl
  clear H2 K2 hgen hW2 hF H3 K3 c1 f1 q0 q1 q2 q3 q4 q5 q6 hs3 cp HH s6 hs
  cases hon : (F o).on
  · rw [hon] at r0
    have HON := Lib.hid hon
    clear hon
    go_wp2
    go_end0
    refine ⟨rfl, ?_, K3H.out⟩
    rw [FH.out, FF.out, if_neg (by rw [HON.out]; simp)]
    exact H3H.out
  · rw [hon] at r0
    have HON := Lib.hid hon
    clear hon
    generalize (F o).score = so at *
    have hwrap : IntKind.i64.wrap (so + 1) = so + 1 := by rw [IntKind.wrap_i64]; omega
    by_cases hlt : so + 1 ≤ 1073741824
    · have MM := Lib.hid (Int.min_eq_left hlt)
      go_wp2
      go_end0
      refine ⟨rfl, ?_, K3H.out.put _ _⟩
      rw [FH.out, FF.out, if_pos HON.out, MM.out]
      exact hsco.out _
    · have MM := Lib.hid (Int.min_eq_right (show (1073741824 : Int) ≤ so + 1 by omega))
      have hlt' : ¬ so + 1 ≤ 1073741824 := hlt
      go_wp2
      go_end0
      refine ⟨rfl, ?_, K3H.out.put _ _⟩
      rw [FH.out, FF.out, if_pos HON.out, MM.out]
      exact hsco.out _
end Go.Proofs.YtiahpncglpfjeaaGreat
namespace Go.Proofs.YtiahpncglpfjeaaGreat
open Go.RowKit Go.Shelf
set_option linter.unusedVariables false

theorem shotCells_set (L : List Gm.Shot) (i j : Nat) (hi : i < L.length) (hj : j < 6) (u : Value) (s' : Gm.Shot) (h : L[i].cells.set j u = s'.cells) : (Gm.shotCells L).set (i * 6 + j) u = Gm.shotCells (L.set i s') := by
  induction L generalizing i with
  | nil => simp at hi
  | cons a L ih =>
    unfold Gm.shotCells at *
    match i with
    | 0 =>
      rw [List.set_cons_zero, List.flatMap_cons, List.flatMap_cons, List.set_append_left _ _ (by simp [Gm.Shot.cells]; omega)]
      congr 1
      simpa using h
    | i + 1 =>
      have hlen : a.cells.length = 6 := rfl
      rw [List.set_cons_succ, List.flatMap_cons, List.flatMap_cons, List.set_append_right _ _ (by rw [hlen]; omega), ← ih i (by simpa using hi) (by simpa using h), hlen]
      congr 2
      omega
/-- A game whose shot i is s. -/
abbrev flyG (G : Gm.G) (i : Nat) (s : Gm.Shot) : Gm.G := { G with shots := G.shots.set i s }
theorem flyG_self (G : Gm.G) (i : Nat) (hi : i < G.shots.length) : flyG G i G.shots[i] = G := by
  unfold flyG; rw [List.set_getElem_self]
theorem HasAt.len {b B c : Nat} {A : Option Addr} {g : Gm.G} {w : World} (h : HasAt b B A c g w) (hn : g.shots.length ≠ 0) : ∃ gs, A = some ⟨gs, 0, none⟩ ∧ b ≤ gs ∧ gs < w.heap.size := by
  obtain ⟨_, ⟨_, h0⟩ | ⟨g', cap, cur, hv, hb, hg, _⟩⟩ := h.own
  · exact absurd h0 hn
  · injection hv with hv
    exact ⟨g', hv, hb, (Array.getElem?_eq_some_iff.1 hg).1⟩
section
variable {b B c gs i : Nat} {G : Gm.G} {s : Gm.Shot} {W : World}
theorem HasAt.shot (h : HasAt b B (some ⟨gs, 0, none⟩) c (flyG G i s) W) (hi : i < G.shots.length) (j : Nat) (hj : j < 6) : W.cell? ⟨gs, i * 6 + j, none⟩ = s.cells[j]? := by
  have h1 := h.own
  dsimp only at h1
  have hl : (G.shots.set i s).length = G.shots.length := by simp
  rw [h1.cellAt (i * 6 + j) (by rw [hl]; omega), Gm.shotCells_at _ i j (by rw [hl]; exact hi) hj]
  simp
theorem HasAt.shotFree (h : HasAt b B (some ⟨gs, 0, none⟩) c G W) (j : Nat) : W.frozen? ⟨gs, j, none⟩ = false := h.own.frozenAt j
theorem HasAt.apart (h : HasAt b B (some ⟨gs, 0, none⟩) c G W) : gs ≠ B := fun e => h.game.unowned h.own (by decide) (by rw [e]; rfl)
theorem HasAt.row (h : HasAt b B (some ⟨gs, 0, none⟩) c G W) : ∃ cs, Box W gs 90 cs ∧ b ≤ gs := by
  obtain ⟨_, ⟨h0, _⟩ | ⟨g', cap, cur, hv, hb, hg, _⟩⟩ := h.own
  · cases h0
  · injection hv with hv
    injection hv with hv
    injection hv with hv
    subst hv
    exact ⟨cur, ⟨hg⟩, hb⟩
theorem HasAt.shotPut (h : HasAt b B (some ⟨gs, 0, none⟩) c (flyG G i s) W) (hi : i < G.shots.length) {j : Nat} (hj : j < 6) {u : Value} {s' : Gm.Shot} (he : s.cells.set j u = s'.cells) : HasAt b B (some ⟨gs, 0, none⟩) c (flyG G i s') (W.setCell ⟨gs, i * 6 + j, none⟩ u) := by
  have hl : (G.shots.set i s).length = G.shots.length := by simp
  have hl' : (G.shots.set i s').length = G.shots.length := by simp
  refine ⟨?_, ?_⟩
  · have hg := h.game
    dsimp only at hg ⊢
    rw [hl] at hg
    rw [hl']
    exact hg.far (p := ⟨gs, i * 6 + j, none⟩) (fun e => h.apart e.symm) u
  · have h1 := (h.own.stored (i * 6 + j) u).1
    dsimp only at h1 ⊢
    rw [hl'] 
    rw [hl] at h1
    rw [shotCells_set _ i j (by rw [hl]; exact hi) hj u s' (by simpa using he), List.set_set] at h1
    exact h1
end

theorem hit_none {f : Nat → Gm.Ship} {s : Gm.Shot} : ∀ n i, i + n = 8 → (∀ y ∈ flies (fun j => (f j).on) n i, Gm.hits1 f s y.1 = false) → Gm.hitFrom f s n i = -1
  | 0, _, _, _ => rfl
  | n + 1, i, hi, h => by
    cases ho : (f i).on
    · rw [flies_no (on := fun j => (f j).on) ho] at h
      rw [Gm.hitFrom_no (by unfold Gm.hits1; rw [ho]; rfl)]
      exact hit_none n (i + 1) (by omega) h
    · rw [flies_yes (on := fun j => (f j).on) (by omega) ho] at h
      rw [Gm.hitFrom_no (h ⟨i, by omega, ho⟩ (by simp))]
      exact hit_none n (i + 1) (by omega) fun y hy => h y (by simp [hy])
theorem hit_first {f : Nat → Gm.Ship} {s : Gm.Shot} : ∀ n i (pre : List (Slot fun j => (f j).on)) (x : Slot fun j => (f j).on) rest, i + n = 8 → flies (fun j => (f j).on) n i = pre ++ x :: rest → (∀ y ∈ pre, Gm.hits1 f s y.1 = false) → Gm.hits1 f s x.1 = true → Gm.hitFrom f s n i = (x.1 : Nat)
  | 0, _, pre, x, rest, _, h, _, _ => by
    have h' : ([] : List (Slot fun j => (f j).on)) = pre ++ x :: rest := h
    have := congrArg List.length h'
    simp at this
  | n + 1, i, pre, x, rest, hi, h, hn, hx => by
    cases ho : (f i).on
    · rw [flies_no (on := fun j => (f j).on) ho] at h
      rw [Gm.hitFrom_no (by unfold Gm.hits1; rw [ho]; rfl)]
      exact hit_first n (i + 1) pre x rest (by omega) h hn hx
    · rw [flies_yes (on := fun j => (f j).on) (by omega) ho] at h
      cases pre with
      | nil =>
        simp only [List.nil_append, List.cons.injEq] at h
        rw [← h.1] at hx ⊢
        rw [Gm.hitFrom_yes hx]
      | cons y pre =>
        simp only [List.cons_append, List.cons.injEq] at h
        have hy := hn y (by simp)
        rw [← h.1] at hy
        rw [Gm.hitFrom_no hy]
        exact hit_first n (i + 1) pre x rest (by omega) h.2 (fun z hz => hn z (by simp [hz])) hx

/-- What becomes of a shot: does it stay, and what is the game then? -/
def gone (G : Gm.G) (i : Nat) (s : Gm.Shot) : Bool × Gm.G :=
  if (Gm.fly s).left = 0 then (false, flyG G i (Gm.fly s))
  else if Gm.hit G.ship (Gm.fly s) < 0 then (true, flyG G i (Gm.fly s))
  else (false, { flyG G i (Gm.fly s) with dice := Gm.placeD G.dice, ship := Gm.more (Gm.anew G.dice G.ship (Gm.hit G.ship (Gm.fly s)).toNat) s.owner.toNat })
end Go.Proofs.YtiahpncglpfjeaaGreat
namespace Go.Proofs.YtiahpncglpfjeaaGreat
open Go.RowKit Go.Shelf
set_option linter.unusedVariables false
attribute [local go_sem] Oper.semAt_some
/-- What is known while a shot flies. -/
structure Fliesy (b B c gs i P1 P2 P3 : Nat) (w0 : World) (G : Gm.G) (s : Gm.Shot) (r : Bool) (W : World) : Prop where
  has : HasAt b B (some ⟨gs, 0, none⟩) c (flyG G i s) W
  p1 : Box W P1 132 #[.pointer (some ⟨B, 0, none⟩)]
  p2 : Box W P2 138 #[.pointer (some ⟨gs, i * 6, none⟩)]
  p3 : Box W P3 4 #[.bool r]
  keep : Keep b B w0 W
section
variable {b B c gs i P1 P2 P3 : Nat} {w0 : World} {G : Gm.G} {s s' : Gm.Shot} {r : Bool} {W W' : World}
theorem Fliesy.call (h : Fliesy b B c gs i P1 P2 P3 w0 G s r W) (hb : Below W.heap.size W W') : Fliesy b B c gs i P1 P2 P3 w0 G s r W' :=
  ⟨h.has.call hb, h.p1.below hb h.p1.lt, h.p2.below hb h.p2.lt, h.p3.below hb h.p3.lt, h.keep.call hb⟩
theorem Fliesy.drew (h : Fliesy b B c gs i P1 P2 P3 w0 G s r W) : Fliesy b B c gs i P1 P2 P3 w0 G s r W.drew := ⟨h.has.drew, h.p1.drew, h.p2.drew, h.p3.drew, h.keep.drew⟩
theorem Fliesy.alloc (h : Fliesy b B c gs i P1 P2 P3 w0 G s r W) (o : Obj) : Fliesy b B c gs i P1 P2 P3 w0 G s r (W.alloc o) := h.call (one_below W o)
theorem Fliesy.put (h : Fliesy b B c gs i P1 P2 P3 w0 G s r W) (hi : i < G.shots.length) {j : Nat} (hj : j < 6) {u : Value} (he : s.cells.set j u = s'.cells) : Fliesy b B c gs i P1 P2 P3 w0 G s' r (W.setCell ⟨gs, i * 6 + j, none⟩ u) := by
  obtain ⟨cs, hr, hbg⟩ := h.has.row
  exact ⟨h.has.shotPut hi hj he, h.p1.far (fun e => Box.apart h.p1 hr (by decide) e) u, h.p2.far (fun e => Box.apart h.p2 hr (by decide) e) u, h.p3.far (fun e => Box.apart h.p3 hr (by decide) e) u, h.keep.shot hr hbg⟩
theorem Fliesy.flag (h : Fliesy b B c gs i P1 P2 P3 w0 G s r W) (h3 : w0.heap.size ≤ P3) (r' : Bool) : Fliesy b B c gs i P1 P2 P3 w0 G s r' (W.setCell ⟨P3, 0, none⟩ (.bool r')) :=
  ⟨h.has.off (p := ⟨P3, 0, none⟩) (Box.apart h.p3 h.has.game (by decide)) h.p3 (by decide) _, h.p1.far (fun e => Box.apart h.p1 h.p3 (by decide) e) _, h.p2.far (fun e => Box.apart h.p2 h.p3 (by decide) e) _, h.p3.put 0 _, h.keep.fresh h3 _⟩
theorem HasAt.turned {A : Option Addr} {g : Gm.G} {row : Option Nat} (h : HasAt b B A c g W) (hg : W.grownBy W' row) (hr : ∀ r, row = some r → ∃ o : Obj, W.heap[r]? = some o ∧ o.isCells = false) : HasAt b B A c g W' := by
  obtain ⟨h, hl, h' | ⟨gg, cap, cur, hv, hbg, hgg, hx⟩⟩ := h
  · exact ⟨h.turned hg hr, hl, .inl h'⟩
  · exact ⟨h.turned hg hr, hl, .inr ⟨gg, cap, cur, hv, hbg, (Box.turned ⟨hgg⟩ hg hr).is, hx⟩⟩
theorem Keep.turned {row : Option Nat} (h : Keep b B w0 W) (hg : W.grownBy W' row) (hr : ∀ r, row = some r → w0.heap.size ≤ r) : Keep b B w0 W' :=
  ⟨hg.os.trans h.os, hg.tape.trans h.tape, hg.output.trans h.output, Nat.le_trans h.size hg.size, h.low, fun k hk hc => (hg.block k (Nat.lt_of_lt_of_le hk h.size) (fun e => by have := hr k e.symm; omega)).trans (h.block k hk hc)⟩
theorem Fliesy.turned {row : Option Nat} (h : Fliesy b B c gs i P1 P2 P3 w0 G s r W) (hg : W.grownBy W' row) (hr : ∀ r, row = some r → w0.heap.size ≤ r ∧ ∃ o : Obj, W.heap[r]? = some o ∧ o.isCells = false) : Fliesy b B c gs i P1 P2 P3 w0 G s r W' :=
  ⟨h.has.turned hg fun r e => (hr r e).2, h.p1.turned hg fun r e => (hr r e).2, h.p2.turned hg fun r e => (hr r e).2, h.p3.turned hg fun r e => (hr r e).2, h.keep.turned hg fun r e => (hr r e).1⟩
end

set_option maxRecDepth 100000 in
set_option maxHeartbeats 4000000 in
theorem goon_walk (G : Gm.G) (b B c gs i o : Nat) (x y vx vy left X Y : Int) (w : World) (hbB : b ≤ B) (hi : i < G.shots.length) (h : HasAt b B (some ⟨gs, 0, none⟩) c G w) (hs : G.shots[i] = ⟨o, x, y, vx, vy, left⟩) (ho : o < 8)
    (ok : Gm.okShot ⟨o, x, y, vx, vy, left⟩) (hsh : ∀ j, j < 8 → Gm.okShip (G.ship j)) (hd : 0 ≤ G.dice ∧ G.dice ≤ 18446744073709551615) (hX : Gf.move x vx = X) (hY : Gf.move y vy = Y) (dx dy dd : Int)
    (hdx : Dn.share (Dn.next G.dice) 16777216 = dx) (hdy : Dn.share (Dn.next (Dn.next G.dice)) 16777216 = dy) (hdd : Dn.next (Dn.next G.dice) = dd) :
    Calls Tryz.prog 105 #[.pointer (some ⟨B, 0, none⟩), .pointer (some ⟨gs, i * 6, none⟩)] w fun e w' =>
      (left - 1 = 0 ∧ e = .returned (.bool false) ∧ HasAt b B (some ⟨gs, 0, none⟩) c (flyG G i ⟨o, X, Y, vx, vy, left - 1⟩) w' ∧ Keep b B w w') ∨
      (left - 1 ≠ 0 ∧ Gm.hit G.ship ⟨o, X, Y, vx, vy, left - 1⟩ = -1 ∧ e = .returned (.bool true) ∧ HasAt b B (some ⟨gs, 0, none⟩) c (flyG G i ⟨o, X, Y, vx, vy, left - 1⟩) w' ∧ Keep b B w w') ∨
      (∃ kh, left - 1 ≠ 0 ∧ Gm.hit G.ship ⟨o, X, Y, vx, vy, left - 1⟩ = (kh : Nat) ∧ e = .returned (.bool false) ∧
        HasAt b B (some ⟨gs, 0, none⟩) c { flyG G i ⟨o, X, Y, vx, vy, left - 1⟩ with dice := dd, ship := Gm.more (Gm.upd G.ship kh ⟨true, dx, dy, 0, 0, 0, (G.ship kh).score⟩) o } w' ∧ Keep b B w w') := by
  have C0 : Fliesy b B c gs i w.heap.size (w.heap.size + 1) (w.heap.size + 1 + 1) w G ⟨o, x, y, vx, vy, left⟩ false (((w.alloc (.cells #[.pointer (some ⟨B, 0, none⟩)] 132)).alloc (.cells #[.pointer (some ⟨gs, i * 6, none⟩)] 138)).alloc (.cells #[.bool false] 4)) := by
    refine ⟨?_, ((Box.made w _ _).alloc _).alloc _, (Box.made_at _ _ _ (by simp)).alloc _, Box.made_at _ _ _ (by simp), ((((Keep.refl hbB w).alloc _).alloc _).alloc _)⟩
    have h' := ((h.alloc (.cells #[.pointer (some ⟨B, 0, none⟩)] 132)).alloc (.cells #[.pointer (some ⟨gs, i * 6, none⟩)] 138)).alloc (.cells #[.bool false] 4)
    rw [← hs, flyG_self G i hi]
    exact h'
  have HC := Lib.hid C0
  have OK := Lib.hid ok
  have HS := Lib.hid hs
  have HSH := Lib.hid hsh
  obtain ⟨o1, o2, o3, o4, o5, o6, o7, o8⟩ := ok
  simp only [Gm.inF, Gm.slow] at o1 o2 o3 o4 o5 o6 o7 o8
  have m1 := Gf.move_bd x vx
  have m2 := Gf.move_bd y vy
  have k1 := fun W => Lib.hid (fldmove_any x vx (by omega) (by omega) W)
  have k2 := fun W => Lib.hid (fldmove_any y vy (by omega) (by omega) W)
  rw [hX] at m1 k1
  rw [hY] at m2 k2
  have hsub : IntKind.i64.wrap (left - 1) = left - 1 := by rw [IntKind.wrap_i64]; omega
  clear C0 h hs hsh hX hY
  refine (callsIn_wide (n := 10)).1 (callsIn_of_wp_marks Tryz.func105 rfl trivial (wpIn_wide.2 ?_) rfl)
  simp only [Tryz.ntmps105, List.size_toArray, List.length_cons, List.length_nil, Nat.reduceAdd, Nat.reduceSub, Array.replicate_succ, Array.replicate_zero, List.push_toArray, List.append_toArray, List.nil_append, List.cons_append]
  go_upto_region 1 with fail
  refine Rp.wp_region_lex (by kernel_rfl) [0, 1, 2, 6, 11, 15, 3, 7, 12, 16, 20, 23] (by kernel_rfl) (Fliesy b B c gs i w.heap.size (w.heap.size + 1) (w.heap.size + 1 + 1) w G ⟨o, x, y, vx, vy, left⟩ false) (Fliesy b B c gs i w.heap.size (w.heap.size + 1) (w.heap.size + 1 + 1) w G ⟨o, x, y, vx, vy, left⟩ false) (fun W => Box W (w.heap.size + 1) 138 #[.pointer (some ⟨gs, i * 6, none⟩)]) HC.out.drew (fun W hW => ⟨hW, hW.p2⟩) ?_
  repeat (first
    | (apply Rp.lex_free rfl rfl; focus (intro _; go_simp; first | done | rfl))
    | (apply Rp.lex_steady rfl rfl rfl rfl; focus (intro W hW; have y2 := Box.cell hW; clear hW; go_simp; first | done | rfl))
    | (apply Rp.lex_look rfl rfl rfl rfl; focus (intro W hW; have z0 := hW.has.shot hi 0 (by omega); have z1 := hW.has.shot hi 1 (by omega); have z2 := hW.has.shot hi 2 (by omega); have z3 := hW.has.shot hi 3 (by omega); have z4 := hW.has.shot hi 4 (by omega); have z5 := hW.has.shot hi 5 (by omega); simp only [Gm.Shot.cells, List.getElem?_cons_zero, List.getElem?_cons_succ, Nat.add_zero] at z0 z1 z2 z3 z4 z5; clear hW; go_simp; first | done | rfl))
    | (apply Rp.lex_call (C' := Fliesy b B c gs i w.heap.size (w.heap.size + 1) (w.heap.size + 1 + 1) w G ⟨o, x, y, vx, vy, left⟩ false) rfl; (focus (intro W hW; clear hW; go_simp; first | done | rfl | exact ⟨rfl, rfl⟩)); (focus (intro W hW; first | ((with_reducible refine (k1 W).out.mono ?_); exact fun e w' h => ⟨h.1, hW.call h.2⟩) | ((with_reducible refine (k2 W).out.mono ?_); exact fun e w' h => ⟨h.1, hW.call h.2⟩))); (focus (exact fun W hW => ⟨hW, hW.p2⟩))))
  refine Rp.lex_store rfl rfl (C' := Fliesy b B c gs i w.heap.size (w.heap.size + 1) (w.heap.size + 1 + 1) w G ⟨o, X, y, vx, vy, left⟩ false) (D' := Fliesy b B c gs i w.heap.size (w.heap.size + 1) (w.heap.size + 1 + 1) w G ⟨o, X, y, vx, vy, left⟩ false) (fun W hW => ⟨_, ?_, hW.put hi (j := 1) (by omega) rfl⟩) (fun W hW => ⟨hW, hW.p2⟩) ?_
  focus
    have y2 := hW.p2.cell
    have f0 := hW.has.shotFree
    have z1 := hW.has.shot hi 1 (by omega)
    simp only [Gm.Shot.cells, List.getElem?_cons_zero, List.getElem?_cons_succ] at z1
    clear hW
    go_simp
    first | done | rfl
  repeat (first
    | (apply Rp.lex_free rfl rfl; focus (intro _; go_simp; first | done | rfl))
    | (apply Rp.lex_steady rfl rfl rfl rfl; focus (intro W hW; have y2 := Box.cell hW; clear hW; go_simp; first | done | rfl))
    | (apply Rp.lex_look rfl rfl rfl rfl; focus (intro W hW; have z0 := hW.has.shot hi 0 (by omega); have z1 := hW.has.shot hi 1 (by omega); have z2 := hW.has.shot hi 2 (by omega); have z3 := hW.has.shot hi 3 (by omega); have z4 := hW.has.shot hi 4 (by omega); have z5 := hW.has.shot hi 5 (by omega); simp only [Gm.Shot.cells, List.getElem?_cons_zero, List.getElem?_cons_succ, Nat.add_zero] at z0 z1 z2 z3 z4 z5; clear hW; go_simp; first | done | rfl))
    | (apply Rp.lex_call (C' := Fliesy b B c gs i w.heap.size (w.heap.size + 1) (w.heap.size + 1 + 1) w G ⟨o, X, y, vx, vy, left⟩ false) rfl; (focus (intro W hW; clear hW; go_simp; first | done | rfl | exact ⟨rfl, rfl⟩)); (focus (intro W hW; first | ((with_reducible refine (k1 W).out.mono ?_); exact fun e w' h => ⟨h.1, hW.call h.2⟩) | ((with_reducible refine (k2 W).out.mono ?_); exact fun e w' h => ⟨h.1, hW.call h.2⟩))); (focus (exact fun W hW => ⟨hW, hW.p2⟩))))
  refine Rp.lex_store rfl rfl (C' := Fliesy b B c gs i w.heap.size (w.heap.size + 1) (w.heap.size + 1 + 1) w G ⟨o, X, Y, vx, vy, left⟩ false) (D' := Fliesy b B c gs i w.heap.size (w.heap.size + 1) (w.heap.size + 1 + 1) w G ⟨o, X, Y, vx, vy, left⟩ false) (fun W hW => ⟨_, ?_, hW.put hi (j := 2) (by omega) rfl⟩) (fun W hW => ⟨hW, hW.p2⟩) ?_
  focus
    have y2 := hW.p2.cell
    have f0 := hW.has.shotFree
    have z2 := hW.has.shot hi 2 (by omega)
    simp only [Gm.Shot.cells, List.getElem?_cons_zero, List.getElem?_cons_succ] at z2
    clear hW
    go_simp
    first | done | rfl
  refine Rp.lex_end fun W1 HW => ?_
  have HC1 := Lib.hid HW
  have y2 := HW.p2.cell
  have f0 := HW.has.shotFree
  have z5 := HW.has.shot hi 5 (by omega)
  simp only [Gm.Shot.cells, List.getElem?_cons_zero, List.getElem?_cons_succ] at z5
  clear HW HC
  go_upto_region 3 with fail
  obtain ⟨W2, hW2⟩ : ∃ W2, W2 = W1.setCell ⟨gs, i * 6 + 5, none⟩ (.int .i64 (left - 1)) := ⟨_, rfl⟩
  have HF : Fliesy b B c gs i w.heap.size (w.heap.size + 1) (w.heap.size + 1 + 1) w G ⟨o, X, Y, vx, vy, left - 1⟩ false W2 := by rw [hW2]; exact HC1.out.put hi (j := 5) (by omega) rfl
  rw [← hW2]
  have HC2 := Lib.hid HF
  clear hW2 HC1 z5 f0 y2
  have y2 := HF.p2.cell
  have y1 := HF.p1.cell
  have y3 := HF.p3.cell
  have g3 := HF.p3.free
  have z5 := HF.has.shot hi 5 (by omega)
  simp only [Gm.Shot.cells, List.getElem?_cons_zero, List.getElem?_cons_succ] at z5
  clear HF
  by_cases hl0 : left - 1 = 0
  · have hb : (left - 1 == 0) = true := by simpa using hl0
    have HF3 := Lib.hid (HC2.out.flag (by omega) false)
    have hc3 : (W2.setCell ⟨w.heap.size + 1 + 1, 0, none⟩ (.bool false)).cell? ⟨w.heap.size + 1 + 1, 0, none⟩ = some (.bool false) := HF3.out.p3.cell 0
    have HL0 := Lib.hid hl0
    clear hl0
    go_wp2
    refine ⟨.bool false, ?_, .inl ⟨HL0.out, rfl, HF3.out.has, HF3.out.keep⟩⟩
    simp [results, Tryz.f105, go_sem, hc3]
  · have hb : (left - 1 == 0) = false := by simp; omega
    have HL0 := Lib.hid hl0
    clear hl0
    go_upto_block 0 with (go_at_call 99; ((with_reducible refine (flying_any _ _).mono ?_); rintro e w3 ⟨rfl, rfl⟩))
    have F0 : Fliesy b B c gs i w.heap.size (w.heap.size + 1) (w.heap.size + 1 + 1) w G ⟨o, X, Y, vx, vy, left - 1⟩ false (W2.alloc (.cells #[.pointer (some ⟨B, 0, none⟩)] 132)) := HC2.out.alloc _
    have PB : Box (W2.alloc (.cells #[.pointer (some ⟨B, 0, none⟩)] 132)) W2.heap.size 132 #[.pointer (some ⟨B, 0, none⟩)] := Box.made _ _ _
    generalize W2.alloc (.cells #[.pointer (some ⟨B, 0, none⟩)] 132) = W3 at F0 PB ⊢
    generalize W2.heap.size = Bg at PB ⊢
    have hfl0 : Flying B Bg (fun j => (G.ship j).on) W3 := ⟨PB.cell 0, fun k hk => F0.has.has.flags k hk⟩
    have FF0 := Lib.hid F0
    have PB0 := Lib.hid PB
    clear F0 PB y1 y2 y3 g3 z5 HC2
    refine (wpIn_wide (n := 10)).1 ?_
    refine wpIn_block ?_
    refine wpIn_rangeFunc_ownF (n := 10) (w := W3) rfl (by omega) (gf := 128) (lb := #[.pointer (some ⟨Bg, 0, none⟩)]) rfl trivial (enters_of Tryz.func128 (by kernel_rfl) rfl)
      (flying1_stops (fun j => (G.ship j).on) B Bg _ W3 hfl0) flykp_t (flykp_b (n := W3.heap.size)) (Below.refl _ _) (fun _ => rfl)
      (fun pre V => Fliesy b B c gs i w.heap.size (w.heap.size + 1) (w.heap.size + 1 + 1) w G ⟨o, X, Y, vx, vy, left - 1⟩ false V ∧ ∀ y ∈ pre, Gm.hits1 G.ship ⟨o, X, Y, vx, vy, left - 1⟩ y.1 = false)
      (fun c' pre V => c' = .ret ∧ ∃ (pre' : List (Slot fun j => (G.ship j).on)) (x : Slot fun j => (G.ship j).on), pre = pre' ++ [x] ∧ (∀ y ∈ pre', Gm.hits1 G.ship ⟨o, X, Y, vx, vy, left - 1⟩ y.1 = false) ∧ Gm.hits1 G.ship ⟨o, X, Y, vx, vy, left - 1⟩ x.1 = true ∧
        HasAt b B (some ⟨gs, 0, none⟩) c { flyG G i ⟨o, X, Y, vx, vy, left - 1⟩ with dice := dd, ship := Gm.more (Gm.upd G.ship x.1 ⟨true, dx, dy, 0, 0, 0, (G.ship x.1).score⟩) o } V ∧ Box V (w.heap.size + 1 + 1) 4 #[.bool false] ∧ Keep b B w V)
      (fun pre V V' row h hgr hr => ⟨h.1.turned hgr (fun r e => ⟨Nat.le_trans FF0.out.keep.size (hr r e).1, (hr r e).2⟩), h.2⟩)
      (fun c' pre V V' row h hgr hr => by
        obtain ⟨h0, pre', x, h1, h2, h3, h4, h5, h6⟩ := h
        exact ⟨h0, pre', x, h1, h2, h3, h4.turned hgr fun r e => (hr r e).2, h5.turned hgr fun r e => (hr r e).2, h6.turned hgr fun r e => Nat.le_trans FF0.out.keep.size (hr r e).1⟩)
      ⟨FF0.out, by simp⟩
      (fun z => { tmps := #[.pointer (some ⟨B, 0, none⟩), .pointer (some ⟨gs, i * 6, none⟩), .pointer (some ⟨w.heap.size, 0, none⟩), .pointer (some ⟨w.heap.size + 1, 0, none⟩), .pointer (some ⟨w.heap.size + 1 + 1, 0, none⟩), .int .i64 z.1, .pointer (some ⟨B, 2 + z.1 * 7, none⟩), .pointer (some ⟨gs, i * 6, none⟩), .pointer (some ⟨gs, i * 6, none⟩), .pointer (some ⟨gs, i * 6, none⟩), .pointer (some ⟨gs, i * 6, none⟩), .pointer (some ⟨gs, i * 6 + 1, none⟩), .int .i32 x, .pointer (some ⟨gs, i * 6, none⟩), .pointer (some ⟨gs, i * 6, none⟩), .pointer (some ⟨gs, i * 6 + 3, none⟩), .int .i32 vx, .int .i32 X, .pointer (some ⟨gs, i * 6, none⟩), .pointer (some ⟨gs, i * 6, none⟩), .pointer (some ⟨gs, i * 6 + 2, none⟩), .int .i32 y, .pointer (some ⟨gs, i * 6, none⟩), .pointer (some ⟨gs, i * 6, none⟩), .pointer (some ⟨gs, i * 6 + 4, none⟩), .int .i32 vy, .int .i32 Y, .pointer (some ⟨gs, i * 6, none⟩), .pointer (some ⟨gs, i * 6 + 1, none⟩), .pointer (some ⟨gs, i * 6, none⟩), .pointer (some ⟨gs, i * 6 + 2, none⟩), .pointer (some ⟨gs, i * 6, none⟩), .pointer (some ⟨gs, i * 6, none⟩), .pointer (some ⟨gs, i * 6 + 5, none⟩), .int .i64 left, .int .i64 (left - 1), .pointer (some ⟨gs, i * 6, none⟩), .pointer (some ⟨gs, i * 6 + 5, none⟩), .pointer (some ⟨gs, i * 6, none⟩), .pointer (some ⟨gs, i * 6, none⟩), .pointer (some ⟨gs, i * 6 + 5, none⟩), .int .i64 (left - 1), .bool false, .pointer (some ⟨B, 0, none⟩), .func (.func 128) #[] #[.pointer (some ⟨Bg, 0, none⟩)], .int .i64 z.1, .pointer (some ⟨B, 2 + z.1 * 7, none⟩), undef, undef, undef, undef, undef, undef, undef, undef, undef, undef, undef, undef, undef, undef, undef, undef, undef, undef, undef, undef, undef, undef, undef, undef, undef, undef, undef, undef, undef, undef, undef, undef], defers := [] }) ?assign ?body ?done ?stop
    case assign =>
      intro l z V K hK
      gi_wp2
      exact hK
    case body =>
      rintro l pre ⟨k, hk, hon⟩ V ⟨hF, hpre⟩ hlen
      dsimp only
      refine wpIn_block ?_
      refine wpIn_seq_k ?_
      intro K hK
      have hk8 : (k : Int) < 8 := by omega
      have hoks := HSH.out k hk
      have y1 : ∀ q : Ext V.heap.size V, q.w.cell? ⟨w.heap.size, 0, none⟩ = some (.pointer (some ⟨B, 0, none⟩)) := fun q => q.cell hF.p1.lt (hF.p1.cell 0)
      have y2 : ∀ q : Ext V.heap.size V, q.w.cell? ⟨w.heap.size + 1, 0, none⟩ = some (.pointer (some ⟨gs, i * 6, none⟩)) := fun q => q.cell hF.p2.lt (hF.p2.cell 0)
      have gsl : gs < V.heap.size := by obtain ⟨cs, hr, _⟩ := hF.has.row; exact hr.lt
      have z0 := hF.has.shot hi 0 (by omega)
      have z1 := hF.has.shot hi 1 (by omega)
      have z2 := hF.has.shot hi 2 (by omega)
      simp only [Gm.Shot.cells, List.getElem?_cons_zero, List.getElem?_cons_succ, Nat.add_zero] at z0 z1 z2
      have z0 : ∀ q : Ext V.heap.size V, q.w.cell? ⟨gs, i * 6, none⟩ = some (.int .i64 o) := fun q => q.cell gsl z0
      have z1 : ∀ q : Ext V.heap.size V, q.w.cell? ⟨gs, i * 6 + 1, none⟩ = some (.int .i32 X) := fun q => q.cell gsl z1
      have z2 : ∀ q : Ext V.heap.size V, q.w.cell? ⟨gs, i * 6 + 2, none⟩ = some (.int .i32 Y) := fun q => q.cell gsl z2
      have sx := (hF.has.game.cell (2 + k * 7 + 1)).trans (Gm.cells_ship _ _ k 1 hk (by omega))
      have sy := (hF.has.game.cell (2 + k * 7 + 2)).trans (Gm.cells_ship _ _ k 2 hk (by omega))
      simp only [Gm.Ship.cells, List.getElem?_cons_zero, List.getElem?_cons_succ] at sx sy
      have sx : ∀ q : Ext V.heap.size V, q.w.cell? ⟨B, 2 + k * 7 + 1, none⟩ = some (.int .i32 (G.ship k).x) := fun q => q.cell hF.has.game.lt sx
      have sy : ∀ q : Ext V.heap.size V, q.w.cell? ⟨B, 2 + k * 7 + 2, none⟩ = some (.int .i32 (G.ship k).y) := fun q => q.cell hF.has.game.lt sy
      have hh1 : Gm.hits1 G.ship ⟨o, X, Y, vx, vy, left - 1⟩ k = (decide ((k : Int) ≠ o) && Gf.hits X Y (G.ship k).x (G.ship k).y) := by
        have hon' : (G.ship k).on = true := hon
        unfold Gm.hits1; rw [hon']; rfl
      obtain ⟨_, ⟨hx1, hx2⟩, ⟨hy1, hy2⟩, _⟩ := hoks
      have chits := fun Z => Lib.hid (fldhits_any X Y (G.ship k).x (G.ship k).y (by omega) (by omega) (by omega) (by omega) Z)
      generalize (G.ship k).x = SX at sx hh1 hx1 hx2 chits
      generalize (G.ship k).y = SY at sy hh1 hy1 hy2 chits
      have HF := Lib.hid hF
      have HP := Lib.hid hpre
      have HH1 := Lib.hid hh1
      clear hF hpre hh1
      by_cases hko : k = o
      · subst hko
        refine Rt.region_ext V.heap.size V (by kernel_rfl) (by kernel_rfl) (by kernel_rfl) (by rintro ⟨_, _, h⟩; exact h) (Below.refl _ _) ?_
        repeat (go_big_quiet_step ((go_at_call 132; with_reducible exact Calls.ext_of (Nat.le_refl _) (chits _).out)))
        refine wpQuiet_nil ?_
        intro _ hw'
        obtain ⟨q, hw''⟩ := hw'
        subst hw''
        refine hK _ _ ?_
        have hnew : ∀ y ∈ pre ++ [(⟨k, hk, hon⟩ : Slot fun j => (G.ship j).on)], Gm.hits1 G.ship ⟨k, X, Y, vx, vy, left - 1⟩ y.1 = false := fun y hy => by
          rcases List.mem_append.1 hy with h | h
          · exact HP.out y h
          · simp only [List.mem_singleton] at h
            subst h
            show Gm.hits1 G.ship ⟨k, X, Y, vx, vy, left - 1⟩ k = false
            rw [HH1.out]; simp
        have HN := Lib.hid hnew
        clear hnew
        gi_wp2
        refine ⟨below_others q.h, fun hf => hf.below q.h, HF.out.call q.h, ?_⟩
        first
          | exact HN.out
          | exact fun a hb hm => HN.out ⟨a, hb⟩ hm
      · have hne : ((k : Int) == (o : Int)) = false := by simp; omega
        have hne2 : ((k : Int) != (o : Int)) = true := by simp; omega
        have hne3 : ¬ (k : Int) = (o : Int) := by omega
        have hne4 : (k == o) = false := by simp; omega
        have hne5 : (k != o) = true := by simp; omega
        have hdo : decide ((k : Int) ≠ o) = true := by simp; omega
        rw [hdo, Bool.true_and] at HH1
        cases hhit : Gf.hits X Y SX SY
        · rw [hhit] at chits HH1
          refine Rt.region_ext V.heap.size V (by kernel_rfl) (by kernel_rfl) (by kernel_rfl) (by rintro ⟨_, _, h⟩; exact h) (Below.refl _ _) ?_
          repeat (go_big_quiet_step ((go_at_call 132; with_reducible exact Calls.ext_of (Nat.le_refl _) (chits _).out)))
          refine wpQuiet_nil ?_
          intro _ hw'
          obtain ⟨q, hw''⟩ := hw'
          subst hw''
          refine hK _ _ ?_
          have hnew : ∀ y ∈ pre ++ [(⟨k, hk, hon⟩ : Slot fun j => (G.ship j).on)], Gm.hits1 G.ship ⟨o, X, Y, vx, vy, left - 1⟩ y.1 = false := fun y hy => by
            rcases List.mem_append.1 hy with h | h
            · exact HP.out y h
            · simp only [List.mem_singleton] at h
              subst h
              show Gm.hits1 G.ship ⟨o, X, Y, vx, vy, left - 1⟩ k = false
              exact HH1.out
          have HN := Lib.hid hnew
          clear hnew
          gi_wp2
          refine ⟨below_others q.h, fun hf => hf.below q.h, HF.out.call q.h, ?_⟩
          first
            | exact HN.out
            | exact fun a hb hm => HN.out ⟨a, hb⟩ hm
        · rw [hhit] at chits HH1
          refine Rt.region_ext V.heap.size V (by kernel_rfl) (by kernel_rfl) (by kernel_rfl) (by rintro ⟨_, _, h⟩; exact h) (Below.refl _ _) ?_
          repeat (go_big_quiet_step ((go_at_call 132; with_reducible exact Calls.ext_of (Nat.le_refl _) (chits _).out)))
          refine wpQuiet_nil ?_
          intro _ hw'
          obtain ⟨q, hw''⟩ := hw'
          subst hw''
          refine hK _ _ ?_
          refine wpIn_cond_true rfl ?_
          refine wpIn_seq_k ?_
          intro K2 hK2
          have hfq := HF.out.call q.h
          have hs8 : ∀ i, i < 8 → 0 ≤ (G.ship i).score ∧ (G.ship i).score ≤ 1073741824 := fun i hi => ⟨(HSH.out i hi).2.2.2.2.2.2.2.1, (HSH.out i hi).2.2.2.2.2.2.2.2⟩
          have chh := fun Z (hZ : HasAt b B (some ⟨gs, 0, none⟩) c (flyG G i ⟨o, X, Y, vx, vy, left - 1⟩) Z) => Lib.hid (hit_walk (flyG G i ⟨o, X, Y, vx, vy, left - 1⟩) b B (some ⟨gs, 0, none⟩) c k o dx dy dd Z hbB hk ho hZ hd hs8 hdx hdy hdd)
          have hoi : gs ≠ B := hfq.has.apart
          refine Rt.region_lex (by kernel_rfl) (by kernel_rfl) [] (by kernel_rfl) (by rintro ⟨_, _, h⟩; exact h)
            (fun Z => Fliesy b B c gs i w.heap.size (w.heap.size + 1) (w.heap.size + 1 + 1) w G ⟨o, X, Y, vx, vy, left - 1⟩ false Z ∧ KeepsOthers V Z)
            (fun Z => Box Z w.heap.size 132 #[.pointer (some ⟨B, 0, none⟩)] ∧ Box Z (w.heap.size + 1) 138 #[.pointer (some ⟨gs, i * 6, none⟩)] ∧ Z.cell? ⟨gs, i * 6, none⟩ = some (.int .i64 o))
            (fun _ => True) ⟨hfq.drew, (below_others q.h).trans (KeepsOthers.drew _)⟩ (fun Z hZ => ⟨⟨hZ.1.p1, hZ.1.p2, hZ.1.has.shot hi 0 (by omega)⟩, trivial⟩) ?_
          repeat (first
            | (apply Rp.lex_free rfl rfl; focus (intro _; go_simp; first | done | rfl))
            | (apply Rp.lex_look rfl rfl rfl rfl; focus (intro Z hZ; obtain ⟨hZ1, hZ2, hZ3⟩ := hZ; have u1 := Box.cell hZ1; have u2 := Box.cell hZ2; clear hZ1 hZ2; go_simp; first | done | rfl)))
          refine Rp.lex_call (C' := fun Z => (HasAt b B (some ⟨gs, 0, none⟩) c { flyG G i ⟨o, X, Y, vx, vy, left - 1⟩ with dice := dd, ship := Gm.more (Gm.upd G.ship k ⟨true, dx, dy, 0, 0, 0, (G.ship k).score⟩) o } Z ∧ Box Z w.heap.size 132 #[.pointer (some ⟨B, 0, none⟩)] ∧ Box Z (w.heap.size + 1) 138 #[.pointer (some ⟨gs, i * 6, none⟩)] ∧ Box Z (w.heap.size + 1 + 1) 4 #[.bool false] ∧ Keep b B w Z) ∧ KeepsOthers V Z) (v := .tuple #[]) (f := 133) (args := #[.pointer (some ⟨B, 0, none⟩), .pointer (some ⟨B, 2 + k * 7, none⟩), .int .i64 o]) rfl ?_ ?_ ?_ ?_
          · intro Z hZ; clear hZ; go_simp; first | done | rfl | exact ⟨rfl, rfl⟩
          · intro Z hZ
            refine (chh Z hZ.1.has).out.mono ?_
            rintro e Z2 ⟨rfl, hH2, hK2⟩
            exact ⟨rfl, ⟨hH2, hZ.1.p1.keep hK2 (Box.apart hZ.1.p1 hZ.1.has.game (by decide)) (by decide), hZ.1.p2.keep hK2 (Box.apart hZ.1.p2 hZ.1.has.game (by decide)) (by decide), hZ.1.p3.keep hK2 (Box.apart hZ.1.p3 hZ.1.has.game (by decide)) (by decide), hZ.1.keep.trans hK2⟩, hZ.2.trans (hK2.others hZ.1.has.game)⟩
          · intro Z hZ
            exact ⟨⟨hZ.1.2.1, hZ.1.2.2.1, HasAt.shot (G := { G with dice := dd, ship := Gm.more (Gm.upd G.ship k ⟨true, dx, dy, 0, 0, 0, (G.ship k).score⟩) o }) hZ.1.1 hi 0 (by omega)⟩, trivial⟩
          refine Rp.lex_end fun Z hZ => ?_
          obtain ⟨⟨hZ1, hZ2, hZ3, hZ4, hZ5⟩, hZ6⟩ := hZ
          refine hK2 _ _ ?_
          have Q1 := Lib.hid (hZ1.off (p := ⟨w.heap.size + 1 + 1, 0, none⟩) (Box.apart hZ4 hZ1.game (by decide)) hZ4 (by decide) (.bool false))
          have Q4 := Lib.hid (hZ4.put 0 (.bool false))
          have Q5 := Lib.hid (hZ5.fresh (p := ⟨w.heap.size + 1 + 1, 0, none⟩) (by show w.heap.size ≤ w.heap.size + 1 + 1; omega) (.bool false))
          have Q6 := Lib.hid (hZ6.trans (KeepsOthers.setCell Z ⟨w.heap.size + 1 + 1, 0, none⟩ (.bool false)))
          have u4 := hZ4.cell
          have v4 := hZ4.free
          clear hZ1 hZ2 hZ3 hZ4 hZ5 hZ6 hfq
          have hhk := Lib.hid HH1.out
          gi_wp2
          first
            | exact ⟨Q6.out, rfl, pre, ⟨k, hk, hon⟩, rfl, HP.out, hhk.out, Q1.out, Q4.out, Q5.out⟩
            | exact ⟨Q6.out, rfl, pre, k, ⟨⟨hk, hon⟩, rfl⟩, fun a hb hm => HP.out ⟨a, hb⟩ hm, hhk.out, Q1.out, Q4.out, Q5.out⟩
    case done =>
      rintro D xs V hD rfl ⟨hF, hn⟩ hK
      have hnone := Lib.hid (hit_none (f := G.ship) (s := ⟨o, X, Y, vx, vy, left - 1⟩) 8 0 rfl hn)
      have hF3 := hF.flag (by omega) true
      have hK3 := others_kept (KeepsOthers.setCell V ⟨w.heap.size + 1 + 1, 0, none⟩ (.bool true)) hK
      have hDw : w.heap.size ≤ D := Nat.le_trans FF0.out.keep.size hD
      have HT := Lib.hid (hF3.turned (grownBy_putObj' _ D (.deferred none)) (fun r e => by cases e; exact ⟨hDw, _, hK3, rfl⟩))
      have HK3 := Lib.hid hK3
      have hc5 : ((V.setCell ⟨w.heap.size + 1 + 1, 0, none⟩ (.bool true)).putObj D (.deferred none)).cell? ⟨w.heap.size + 1 + 1, 0, none⟩ = some (.bool true) := HT.out.p3.cell 0
      have u4 := hF.p3.cell
      have v4 := hF.p3.free
      clear hn hF hF3 hK3 hK
      go_wp2
      refine ⟨by simp, .inl ⟨_, _, rfl, run_takeDeferred HK3.out, ?_⟩⟩
      refine ⟨.bool true, ?_, .inr (.inl ⟨HL0.out, hnone.out, rfl, HT.out.has, HT.out.keep⟩)⟩
      simp [results, Tryz.f105, go_sem, hc5]
    case stop =>
      rintro D c' pre V hD ⟨rest, hpre⟩ ⟨rfl, pre', x, rfl, h2, h3, h4, h5, h6⟩ hK
      have hfirst := Lib.hid (hit_first (f := G.ship) (s := ⟨o, X, Y, vx, vy, left - 1⟩) 8 0 pre' x rest rfl (by rw [hpre]; simp) h2 h3)
      have hDw : w.heap.size ≤ D := Nat.le_trans FF0.out.keep.size hD
      have HT4 := Lib.hid (h4.turned (grownBy_putObj' _ D (.deferred none)) (fun r e => by cases e; exact ⟨_, hK, rfl⟩))
      have HT5 := Lib.hid (h5.turned (grownBy_putObj' _ D (.deferred none)) (fun r e => by cases e; exact ⟨_, hK, rfl⟩))
      have HT6 := Lib.hid (h6.turned (grownBy_putObj' V D (.deferred none)) (fun r e => by cases e; exact hDw))
      have hc5 : (V.putObj D (.deferred none)).cell? ⟨w.heap.size + 1 + 1, 0, none⟩ = some (.bool false) := HT5.out.cell 0
      have HK3 := Lib.hid hK
      clear h2 h3 h4 h5 h6 hK hpre
      refine wpIn_ret ?_
      refine ⟨by simp, .inl ⟨_, _, rfl, run_takeDeferred HK3.out, ?_⟩⟩
      refine ⟨.bool false, ?_, .inr (.inr ⟨x.1, HL0.out, hfirst.out, rfl, HT4.out, HT6.out⟩)⟩
      simp [results, Tryz.f105, go_sem, hc5]
end Go.Proofs.YtiahpncglpfjeaaGreat
namespace Go.Proofs.YtiahpncglpfjeaaGreat
open Go.RowKit Go.Shelf
set_option linter.unusedVariables false

theorem goon_at (G : Gm.G) (b B c gs i : Nat) (w : World) (hbB : b ≤ B) (hi : i < G.shots.length) (h : HasAt b B (some ⟨gs, 0, none⟩) c G w) (ok : Gm.okShot G.shots[i]) (hsh : ∀ j, j < 8 → Gm.okShip (G.ship j)) (hd : 0 ≤ G.dice ∧ G.dice ≤ 18446744073709551615) :
    Calls Tryz.prog 105 #[.pointer (some ⟨B, 0, none⟩), .pointer (some ⟨gs, i * 6, none⟩)] w fun e w' => e = .returned (.bool (gone G i G.shots[i]).1) ∧ HasAt b B (some ⟨gs, 0, none⟩) c (gone G i G.shots[i]).2 w' ∧ Keep b B w w' := by
  generalize hs : G.shots[i] = s at ok
  obtain ⟨owner, x, y, vx, vy, left⟩ := s
  obtain ⟨o, rfl⟩ : ∃ o : Nat, owner = o := ⟨owner.toNat, by have := ok.1; dsimp only at this; omega⟩
  have ho : o < 8 := by have := ok.2.1; dsimp only at this; omega
  have hf : Gm.fly ⟨o, x, y, vx, vy, left⟩ = ⟨o, Gf.move x vx, Gf.move y vy, vx, vy, left - 1⟩ := rfl
  refine (goon_walk G b B c gs i o x y vx vy left _ _ w hbB hi h hs ho ok hsh hd rfl rfl _ _ _ rfl rfl rfl).mono ?_
  rintro e w' (⟨h1, rfl, h2, h3⟩ | ⟨h0, h1, rfl, h2, h3⟩ | ⟨kh, h0, h1, rfl, h2, h3⟩)
  · unfold gone
    rw [hf, if_pos h1]
    exact ⟨rfl, h2, h3⟩
  · unfold gone
    rw [hf, if_neg h0, if_pos (by rw [h1]; decide)]
    exact ⟨rfl, h2, h3⟩
  · unfold gone
    rw [hf, if_neg h0, if_neg (by rw [h1]; omega), h1]
    exact ⟨rfl, h2, h3⟩

theorem stays_at (G : Gm.G) (b B c gs i : Nat) (w : World) (hbB : b ≤ B) (hi : i < G.shots.length) (h : HasAt b B (some ⟨gs, 0, none⟩) c G w) (ok : Gm.okShot G.shots[i]) (hsh : ∀ j, j < 8 → Gm.okShip (G.ship j)) (hd : 0 ≤ G.dice ∧ G.dice ≤ 18446744073709551615) :
    Calls Tryz.prog 104 #[.pointer (some ⟨gs, i * 6, none⟩), .pointer (some ⟨B, 0, none⟩)] w fun e w' => e = .returned (.bool (gone G i G.shots[i]).1) ∧ HasAt b B (some ⟨gs, 0, none⟩) c (gone G i G.shots[i]).2 w' ∧ Keep b B w w' := by
  have c1 := Lib.hid (goon_at G b B c gs i w hbB hi h ok hsh hd)
  generalize gone G i G.shots[i] = r at c1 ⊢
  clear h ok
  go_enter Tryz.func104, Tryz.ntmps104
  go_wp2_with (go_at_call 105; ((with_reducible refine (c1.out).mono ?_); rintro e w1 ⟨rfl, h1, h2⟩; have H1 := Lib.hid h1; have H2 := Lib.hid h2; clear h1 h2))
  go_ret
  exact ⟨rfl, H1.out, H2.out⟩

def AppendsIn (P : Program) (e : TypeId) (size : Nat) (ops : Array Oper) (Q : Exit → Act → World → Prop) (rest : List Oper) (dst : Option Tmp) (v q : Value) (a : Act) (w : World) : Prop :=
  ∃ (g n c : Nat) (cur : Array Value) (ad : Addr) (k : Nat) (news : List Value), v = .slice (some ⟨g, 0, none⟩) n c ∧ q = .slice (some ad) 1 k ∧ Box w g e cur ∧ Lies w w.heap.size size (some ad) 1 news ∧ (∀ u ∈ news, u.oneCell' = true) ∧ n + 1 ≤ c ∧ n * size + news.length ≤ cur.size ∧
    wpList P ops Q rest (a.put dst (.slice (some ⟨g, 0, none⟩) (n + 1) c)) (w.setRow g (cur.toList.take (n * size) ++ news ++ cur.toList.drop (n * size + news.length)).toArray)
theorem AppendsIn.mk {P : Program} {e : TypeId} {size : Nat} {ops : Array Oper} {Q : Exit → Act → World → Prop} {rest : List Oper} {dst : Option Tmp} {v q : Value} {a : Act} {w : World} {g n c : Nat} {cur : Array Value} {ad : Addr} {k : Nat} {news : List Value}
    (hv : v = .slice (some ⟨g, 0, none⟩) n c) (hq : q = .slice (some ad) 1 k) (hB : Box w g e cur) (hl : Lies w w.heap.size size (some ad) 1 news) (h1 : ∀ u ∈ news, u.oneCell' = true) (hr : n + 1 ≤ c) (hf : n * size + news.length ≤ cur.size)
    (h : wpList P ops Q rest (a.put dst (.slice (some ⟨g, 0, none⟩) (n + 1) c)) (w.setRow g (cur.toList.take (n * size) ++ news ++ cur.toList.drop (n * size + news.length)).toArray)) : AppendsIn P e size ops Q rest dst v q a w :=
  ⟨g, n, c, cur, ad, k, news, hv, hq, hB, hl, h1, hr, hf, h⟩
theorem room_gate {P : Program} {ops : Array Oper} {rest : List Oper} {o : Oper} {a : Act} {w : World} {Q : Exit → Act → World → Prop} {t e : TypeId} {i : TypeInfo} {size : Nat} {x y : Operand}
    (hgd : o.guard = none) (ho : o.op = .call { callee := .builtin .append, args := #[x, y], argTypes := #[t, t] }) (ht : P.underlying t = some (.slice e)) (hi : P.info? e = some i) (hs : i.size = size)
    (h : AppendsIn P e size ops Q rest o.dst (a.eval x) (a.eval y) a w) : wpList P ops Q (o :: rest) a w := by
  obtain ⟨g, n, c, cur, ad, k, news, hv, hq, hB, hl, h1, hr, hf, h⟩ := h
  subst hs
  have hrun := run_append_room (P := P) (w := w) t o.type e i ht hi g n c cur hB.is ad 1 k news hl.len (fun j u hu => hl.cell ad rfl (by decide) j u hu) h1 hr hf
  refine wpList_plain hgd fun _ hK => ?_
  unfold Oper.wp
  rw [exec_append ho hv hq hrun]
  exact hK _ _ h
theorem shotCells_over (L : List Gm.Shot) (n : Nat) (hn : n < L.length) (s : Gm.Shot) : Gm.shotCells (L.set n s) = (Gm.shotCells L).take (n * 6) ++ s.cells ++ (Gm.shotCells L).drop (n * 6 + 6) := by
  induction L generalizing n with
  | nil => simp at hn
  | cons a L ih =>
    have hlen : a.cells.length = 6 := rfl
    unfold Gm.shotCells at *
    match n with
    | 0 => rw [List.set_cons_zero, List.flatMap_cons, List.flatMap_cons]; simp [hlen]
    | n + 1 =>
      rw [List.set_cons_succ, List.flatMap_cons, List.flatMap_cons, ih n (by simpa using hn), show (n + 1) * 6 = a.cells.length + n * 6 by rw [hlen]; omega, List.take_length_add_append, show a.cells.length + n * 6 + 6 = a.cells.length + (n * 6 + 6) by omega, List.drop_length_add_append]
      simp
theorem HasAt.room {b B c gs n : Nat} {G : Gm.G} {W : World} (h : HasAt b B (some ⟨gs, 0, none⟩) c G W) (hn : n < G.shots.length) (s : Gm.Shot) :
    ∃ cur, Box W gs 90 cur ∧ n + 1 ≤ c ∧ n * 6 + 6 ≤ cur.size ∧ HasAt b B (some ⟨gs, 0, none⟩) c { G with shots := G.shots.set n s } (W.setRow gs (cur.toList.take (n * 6) ++ s.cells ++ cur.toList.drop (n * 6 + 6)).toArray) := by
  have hap := h.apart
  obtain ⟨hg, hl, ⟨h0, _⟩ | ⟨g', cap, cur, hv, hb, hgg, hnc, hcm, hcs, htake⟩⟩ := h
  · cases h0
  · injection hv with e1 e2 e3
    injection e1 with e1
    injection e1 with e1
    subst e1 e3
    have hfit : n * 6 + 6 ≤ cur.size := by omega
    refine ⟨cur, ⟨hgg⟩, by omega, hfit, ?_, ?_, ?_⟩
    · dsimp only
      rw [show (G.shots.set n s).length = G.shots.length by simp]
      exact hg.row_far (fun e => hap e.symm) _
    · dsimp only
      rw [Gm.shotCells_len]
    · dsimp only
      rw [show (G.shots.set n s).length = G.shots.length by simp]
      refine .inr ⟨gs, c, _, rfl, hb, (Box.row ⟨hgg⟩ _).is, hnc, hcm, ?_, ?_⟩
      · have : s.cells.length = 6 := rfl
        simp [this]; omega
      · rw [shotCells_over _ _ hn, ← htake]
        have hc6 : s.cells.length = 6 := rfl
        have hcl : cur.toList.length = c * 6 := by simpa using hcs
        have hm : n * 6 + 6 ≤ G.shots.length * 6 := by omega
        have hm2 : G.shots.length * 6 ≤ c * 6 := by omega
        generalize G.shots.length * 6 = M at *
        generalize n * 6 = K at *
        generalize cur.toList = Z at *
        rw [List.take_append, List.take_append]
        simp only [List.length_append, List.length_take, hc6, hcl]
        rw [List.take_take, List.take_take]
        rw [show min M K = K by omega, show min K (c * 6) = K by omega, show min K M = K by omega, List.take_of_length_le (l := s.cells) (by omega), List.drop_take]

/-- A list that stays as it is but for one. -/
theorem HasAt.self {b B c : Nat} {A : Option Addr} {G : Gm.G} {W : World} (h : HasAt b B A c G W) : HasAt b B A c { G with shots := G.shots } W := h

/-- No shots: nobody is asked. -/
theorem keep_none (g : Gm.G) (b B : Nat) (f : Value) (w : World) (hbB : b ≤ B) (h : Has b B g w) (h0 : g.shots = []) :
    Calls Tryz.prog 103 #[.pointer (some ⟨B, 0, none⟩), f] w fun e w' => e = .returned (.tuple #[]) ∧ Has b B g w' ∧ Keep b B w w' := by
  obtain ⟨A, c, hB, hO⟩ := h
  rw [h0] at hB hO
  have hn : ([] : List Gm.Shot).length = 0 := rfl
  rw [hn] at hB hO
  have hc := hB.cell
  have hf := hB.free
  have e58 := Gm.cells_58 g (.slice A 0 c)
  have fin : Has b B g (w.setCell ⟨B, 58, none⟩ (.slice A 0 c)) := ⟨A, c, by rw [h0]; exact blk_shots hB _, by rw [h0]; exact ownsRow_setCell_other (a := ⟨B, 58, none⟩) hO (hB.unowned hO (by decide)) _⟩
  have FIN := Lib.hid fin
  have HK := Lib.hid ((Keep.refl hbB w).put 58 (.slice A 0 c))
  have hA : A = none → c = 0 := fun e => by
    subst e
    obtain ⟨_, ⟨h, _⟩ | ⟨_, _, _, h, _⟩⟩ := hO
    · injection h
    · cases h
  clear hB hO fin
  cases A with
  | none =>
    obtain rfl := hA rfl
    clear hA
    go_enter Tryz.func103, Tryz.ntmps103
    go_wp2
    go_loopg [4, 16] 0 (fun gg s4 i wr => gg = 0 ∧ s4 = .slice none 0 0 ∧ i = .int .i64 0 ∧ wr = w)
    case atStart => exact ⟨rfl, rfl, rfl, rfl⟩
    case round =>
      obtain ⟨rfl, rfl, rfl, rfl⟩ := hrel
      go_wp2
      go_end0
      exact ⟨rfl, FIN.out, HK.out⟩
  | some ad =>
    clear hA
    go_enter Tryz.func103, Tryz.ntmps103
    go_wp2
    go_loopg [4, 16] 0 (fun gg s4 i wr => gg = 0 ∧ s4 = .slice (some ad) 0 c ∧ i = .int .i64 0 ∧ wr = w)
    case atStart => exact ⟨rfl, rfl, rfl, rfl⟩
    case round =>
      obtain ⟨rfl, rfl, rfl, rfl⟩ := hrel
      go_wp2
      go_end0
      exact ⟨rfl, FIN.out, HK.out⟩
end Go.Proofs.YtiahpncglpfjeaaGreat
