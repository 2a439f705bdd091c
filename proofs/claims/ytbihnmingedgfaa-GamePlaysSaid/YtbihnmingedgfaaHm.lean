/-
The program's game: who shoots.
-/
import Derived.Test.YtbihnmingedgfaaHl
import Derived.Test.YtbihnmingedgfaaRp
namespace Go.Proofs.Ytbihnmingedgfaa
open Go.RowKit
set_option linter.unusedVariables false

theorem and_one {p : Int} (wp : 0 ≤ p ∧ p ≤ 255) : bits .and .u8 p 1 = p % 2 := by
  rw [u8_and p 1 wp.1 (by omega) (by decide) (by decide)]
  show ((p.toNat &&& 1 : Nat) : Int) = p % 2
  rw [Nat.and_one_is_mod]; omega
theorem append_runs {P : Program} (w : World) {t ty e : TypeId} {i : TypeInfo} {z : Value} {size bytes : Nat} (ht : P.underlying t = some (.slice e)) (hi : P.info? e = some i) (hz : i.zero = some z) (hs : i.size = size) (hby : i.bytes = bytes) (hzs : z.cells.size = size) (hsz : 0 < size)
    {base n : Nat} {v : Value} {xs : List Value} (ho : w.ownsRow base e size v n xs) {ad : Addr} {m c : Nat} {news : List Value} (hl : Lies w w.heap.size size (some ad) m news) (hm : m ≠ 0) (h1 : ∀ u ∈ news, u.oneCell' = true) (h63 : n + m ≤ maxLen) (hb : (n + m) * bytes ≤ 140737488355328) (hbase : base ≤ w.heap.size) :
    ∃ A' c' w', (Builtin.append_ #[t, t] ty #[v, .slice (some ad) m c]).run P w = .ok (.slice A' (n + m) c') w' ∧ w'.ownsRow base e size (.slice A' (n + m) c') (n + m) (xs ++ news) ∧ w.grownBy w' v.ownBlock := by
  obtain ⟨v', w', hr, h2, h3, _, _⟩ := run_append_own_at (P := P) w base t ty e i z size bytes ht hi hz hs hby hzs hsz v n xs ho ad m c news hl.len (fun j u hu => hl.cell ad rfl hm j u hu) h1 h63 hb hbase
  obtain ⟨A', c', rfl⟩ := owned_slice h2
  exact ⟨A', c', w', hr, h2, h3⟩

theorem exec_append {P : Program} {o : Oper} {a : Act} {x y : Operand} {ts : Array TypeId} {W W' : World} {v1 v2 r : Value} (ho : o.op = .call { callee := .builtin .append, args := #[x, y], argTypes := ts }) (hx : a.eval x = v1) (hy : a.eval y = v2) (hr : (Builtin.append_ ts o.type #[v1, v2]).run P W = .ok r W') :
    (execOp a.eval o).run P W = .ok (.value r) W' := by
  unfold execOp
  simp only [ho, resolve, invoke, builtin, Sem.run_bind, Sem.run_pure, Result.andThen_ok, List.map_toArray, List.map_cons, List.map_nil, hx, hy, hr]

/-- What a shooting slot leaves. -/
def shotG (g : Gm.G) (k : Nat) (x y p : Int) : Gm.G :=
  if 0 < (g.ship k).cool then shipG g k { g.ship k with cool := (g.ship k).cool - 1 }
  else if p % 2 = 1 ∧ g.shots.length < 32 then { shipG g k { g.ship k with cool := 10 } with shots := g.shots ++ [⟨k, (g.ship k).x, (g.ship k).y, Gf.aimx x y, Gf.aimy y, 24⟩] }
  else g

theorem Has.field {b B k : Nat} {g : Gm.G} {w : World} (h : Has b B g w) {t' : Gm.Ship} {i : Nat} {u : Value} (he : ∀ s, (Gm.cells (shipG g k (g.ship k)) s).setIfInBounds i u = Gm.cells (shipG g k t') s) : Has b B (shipG g k t') (w.setCell ⟨B, i, none⟩ u) :=
  h.put rfl (fun s hB => he s ▸ (by rw [shipG, Gm.upd_self]; exact hB.put i u)) (fun j hj => heap_setCell_other _ _ j _ hj)

set_option maxRecDepth 100000 in
set_option maxHeartbeats 2000000 in
theorem shoot_cool (g : Gm.G) (b B k : Nat) (x y p : Int) (w : World) (hbB : b ≤ B) (hk : k < 8) (h : Has b B g w) (hc : 0 < (g.ship k).cool ∧ (g.ship k).cool ≤ 10) :
    Calls Try.prog 61 #[.pointer (some ⟨B, 0, none⟩), .int .i64 k, .agg #[.int .i8 x, .int .i8 y, .int .u8 p]] w fun e w' => (∃ v, e = .returned v) ∧ Has b B (shipG g k { g.ship k with cool := (g.ship k).cool - 1 }) w' ∧ Keep b B w w' := by
  have HH := Lib.hid (h.alloc (.cells #[.int .i8 x, .int .i8 y, .int .u8 p] 37))
  have HK := Lib.hid ((Keep.refl hbB w).alloc (.cells #[.int .i8 x, .int .i8 y, .int .u8 p] 37))
  have hr := Lib.hid (h.alloc (.cells #[.int .i8 x, .int .i8 y, .int .u8 p] 37) |>.field (k := k) (t' := { g.ship k with cool := (g.ship k).cool - 1 }) (fun s => set_cool g s k (g.ship k) hk ((g.ship k).cool - 1)))
  obtain ⟨A, c, hB, hO⟩ := HH.out
  have c0 := hB.cell
  have f0 := hB.free
  have s5 := Gm.cells_ship g (.slice A g.shots.length c) k 5 hk (by omega)
  simp only [Gm.Ship.cells, List.getElem?_cons_zero, List.getElem?_cons_succ] at s5
  have hk8 : (k : Int) < 8 := by omega
  generalize (g.ship k).cool = q at *
  have hq : IntKind.i64.wrap (q - 1) = q - 1 := by rw [IntKind.wrap_i64]; omega
  clear hB hO h
  go_enter Try.func61, Try.ntmps61
  go_wp2
  refine bodyPost_ret (results_none rfl _ _ _) rfl ?_
  exact ⟨⟨_, rfl⟩, hr.out, HK.out.put _ _⟩

set_option maxRecDepth 100000 in
set_option maxHeartbeats 2000000 in
theorem shoot_rest (g : Gm.G) (b B k : Nat) (x y p : Int) (w : World) (hbB : b ≤ B) (hk : k < 8) (h : Has b B g w) (hc : (g.ship k).cool = 0) (wp : 0 ≤ p ∧ p ≤ 255) (hp : ¬ (p % 2 = 1 ∧ g.shots.length < 32)) :
    Calls Try.prog 61 #[.pointer (some ⟨B, 0, none⟩), .int .i64 k, .agg #[.int .i8 x, .int .i8 y, .int .u8 p]] w fun e w' => (∃ v, e = .returned v) ∧ Has b B g w' ∧ Keep b B w w' := by
  have HH := Lib.hid (h.alloc (.cells #[.int .i8 x, .int .i8 y, .int .u8 p] 37))
  have HK := Lib.hid ((Keep.refl hbB w).alloc (.cells #[.int .i8 x, .int .i8 y, .int .u8 p] 37))
  obtain ⟨A, c, hB, hO⟩ := HH.out
  have c0 := hB.cell
  have f0 := hB.free
  have s5 := Gm.cells_ship g (.slice A g.shots.length c) k 5 hk (by omega)
  have e58 := Gm.cells_58 g (.slice A g.shots.length c)
  simp only [Gm.Ship.cells, List.getElem?_cons_zero, List.getElem?_cons_succ, hc] at s5
  have hk8 : (k : Int) < 8 := by omega
  clear hB hO h hc
  generalize g.shots.length = m at *
  by_cases hodd : p % 2 = 1
  · have hm32 : (32 : Int) ≤ m := by omega
    have hb1 : bits .and .u8 p 1 = 1 := by rw [and_one wp]; exact hodd
    clear hp hodd
    go_enter Try.func61, Try.ntmps61
    go_wp2
    refine bodyPost_ret (results_none rfl _ _ _) rfl ?_
    exact ⟨⟨_, rfl⟩, HH.out, HK.out⟩
  · have hb1 : bits .and .u8 p 1 = 0 := by rw [and_one wp]; omega
    clear hp hodd
    go_enter Try.func61, Try.ntmps61
    go_wp2
    refine bodyPost_ret (results_none rfl _ _ _) rfl ?_
    exact ⟨⟨_, rfl⟩, HH.out, HK.out⟩

set_option maxRecDepth 100000 in
set_option maxHeartbeats 1000000 in
theorem shoot_yes (g : Gm.G) (b B k : Nat) (x y p : Int) (w : World) (hbB : b ≤ B) (hk : k < 8) (h : Has b B g w) (hc : (g.ship k).cool = 0) (wx : -128 ≤ x ∧ x ≤ 127) (wy : -128 ≤ y ∧ y ≤ 127) (wp : 0 ≤ p ∧ p ≤ 255) (hp : p % 2 = 1) (hm : g.shots.length < 32) :
    Calls Try.prog 61 #[.pointer (some ⟨B, 0, none⟩), .int .i64 k, .agg #[.int .i8 x, .int .i8 y, .int .u8 p]] w fun e w' => (∃ v, e = .returned v) ∧ Has b B { shipG g k { g.ship k with cool := 10 } with shots := g.shots ++ [⟨k, (g.ship k).x, (g.ship k).y, Gf.aimx x y, Gf.aimy y, 24⟩] } w' ∧ Keep b B w w' := by
  have HH := Lib.hid (h.alloc (.cells #[.int .i8 x, .int .i8 y, .int .u8 p] 37))
  have HK := Lib.hid ((Keep.refl hbB w).alloc (.cells #[.int .i8 x, .int .i8 y, .int .u8 p] 37))
  obtain ⟨A, c, hB, hO⟩ := HH.out
  have c0 := hB.cell
  have f0 := hB.free
  have s5 := Gm.cells_ship g (.slice A g.shots.length c) k 5 hk (by omega)
  have s1 := Gm.cells_ship g (.slice A g.shots.length c) k 1 hk (by omega)
  have s2 := Gm.cells_ship g (.slice A g.shots.length c) k 2 hk (by omega)
  have e58 := Gm.cells_58 g (.slice A g.shots.length c)
  simp only [Gm.Ship.cells, List.getElem?_cons_zero, List.getElem?_cons_succ, hc] at s5 s1 s2
  have hk8 : (k : Int) < 8 := by omega
  have hb1 : bits .and .u8 p 1 = 1 := by rw [and_one wp]; exact hp
  have hm32 : ¬ (32 : Int) ≤ g.shots.length := by omega
  have ca := fun X => Lib.hid (fldaim_any x y p wx wy wp X)
  have BB := Lib.hid hB
  have OO := Lib.hid hO
  clear hB hO h hc hp
  go_enter Try.func61, Try.ntmps61
  go_upto_region 6 with (go_at_call 111; ((with_reducible refine ((ca _).out).mono ?_); rintro e w1 ⟨rfl, hb1'⟩; have B1 := BB.out.below hb1' BB.out.lt; have c1 := B1.cell; have f1 := B1.free; have HB1 := Lib.hid B1; have O1 := Lib.hid (own_below OO.out hb1' (Nat.le_refl _)); have K1 := Lib.hid (HK.out.call hb1'); clear B1 hb1' c0 f0))
  have ax := Gf.aimx_bd x y
  generalize hAX : Gf.aimx x y = AX at *
  generalize hAY : Gf.aimy y = AY at *
  obtain ⟨i0, hi0, hz0, hz1, hz2⟩ := info_parts shot_info
  have o1 := (O1.out.drew).alloc (.cells #[.int .i64 k, .int .i32 (g.ship k).x, .int .i32 (g.ship k).y, .int .i32 AX, .int .i32 AY, .int .i64 24] 108)
  have bsz := K1.out.size
  obtain ⟨A2, c2, w2, hrun, own2, hg2⟩ := append_runs (P := Try.prog) _ (ty := 28) Try.underlying28 hi0 hz0 hz1 hz2 rfl (by decide) o1 (c := 1) (lies_made w1.drew 108 ⟨k, (g.ship k).x, (g.ship k).y, AX, AY, 24⟩) (by decide) (shotCells_one _) (by unfold maxLen; omega) (by omega) (by have := HB1.out.lt; simp; omega)
  have B2 := grown_box HB1.out.drew O1.out.drew (by decide) hg2
  have K2 := Lib.hid (K1.out.drew.grown' O1.out.drew hg2)
  have HB2 := Lib.hid B2
  have OW := Lib.hid own2
  have f2 := B2.free
  have k2 := B2.cell
  clear o1 own2 hg2 B2 c1 f1
  refine Rp.wp_region_lex (by kernel_rfl) [] (by kernel_rfl) (· = w1.drew) (fun W => Box W B 30 (Gm.cells g (.slice A g.shots.length c))) (fun _ => True) rfl (fun W hW => ⟨hW ▸ HB1.out.drew, trivial⟩) ?_
  repeat (first
    | (apply Rp.lex_free rfl rfl; focus (intro _; go_simp; first | done | rfl))
    | (apply Rp.lex_look rfl rfl rfl rfl; focus (intro W hW; have c0 := Box.cell hW; clear hW; go_simp; first | done | rfl)))
  refine Rp.lex_make rfl (W' := w1.drew.alloc (.cells #[.int .i64 k, .int .i32 (g.ship k).x, .int .i32 (g.ship k).y, .int .i32 AX, .int .i32 AY, .int .i64 24] 108)) (v := .slice (some ⟨w1.drew.heap.size, 0, none⟩) 1 1) ?_ ⟨HB1.out.drew.alloc _, trivial⟩ ?_
  focus (go_simp; first | done | rfl)
  refine Rp.lex_make rfl (W' := w2) (v := .slice A2 (g.shots.length + 1) c2) (exec_append (x := .tmp 47) (y := .tmp 60) (v1 := .slice A g.shots.length c) (v2 := .slice (some ⟨w1.drew.heap.size, 0, none⟩) 1 1) rfl (by go_simp) (by go_simp) hrun) ⟨HB2.out, trivial⟩ ?_
  repeat (first
    | (apply Rp.lex_free rfl rfl; focus (intro _; go_simp; first | done | rfl))
    | (apply Rp.lex_look rfl rfl rfl rfl; focus (intro W hW; have c0 := Box.cell hW; clear hW; go_simp; first | done | rfl)))
  refine Rp.lex_store rfl rfl (C' := (· = w2.setCell ⟨B, 58, none⟩ (.slice A2 (g.shots.length + 1) c2))) (D' := fun _ => True) (fun W hW => ⟨_, ?_, rfl⟩) (fun _ _ => ⟨trivial, trivial⟩) ?_
  focus (subst hW; go_simp; first | done | rfl)
  refine Rp.lex_end fun W2 hW2 => ?_
  have ne2 := HB2.out.unowned OW.out (by decide)
  have H3 : Has b B { g with shots := g.shots ++ [⟨k, (g.ship k).x, (g.ship k).y, AX, AY, 24⟩] } W2 := by
    subst hW2
    refine ⟨A2, c2, ?_, ?_⟩
    · rw [show (g.shots ++ [(⟨k, (g.ship k).x, (g.ship k).y, AX, AY, 24⟩ : Gm.Shot)]).length = g.shots.length + 1 by simp]
      exact blk_shots HB2.out _
    · dsimp only
      rw [show (g.shots ++ [(⟨k, (g.ship k).x, (g.ship k).y, AX, AY, 24⟩ : Gm.Shot)]).length = g.shots.length + 1 by simp, Gm.shotCells_append]
      exact ownsRow_setCell_other (a := ⟨B, 58, none⟩) OW.out ne2 _
  have K3 : Keep b B w W2 := by subst hW2; exact K2.out.put _ _
  have R3 := Lib.hid (H3.field (k := k) (t' := { g.ship k with cool := 10 }) (u := .int .i64 10) (fun s => set_cool { g with shots := g.shots ++ [⟨k, (g.ship k).x, (g.ship k).y, AX, AY, 24⟩] } s k (g.ship k) hk 10))
  have HK3 := Lib.hid K3
  obtain ⟨G3, hG3⟩ : ∃ G : Gm.G, G = { g with shots := g.shots ++ [(⟨k, (g.ship k).x, (g.ship k).y, AX, AY, 24⟩ : Gm.Shot)] } := ⟨_, rfl⟩
  rw [← hG3] at H3
  clear hG3
  obtain ⟨A3, c3, hB3, hO3⟩ := H3
  have k3 := hB3.cell
  have f3 := hB3.free
  have z5 := Gm.cells_ship G3 (.slice A3 G3.shots.length c3) k 5 hk (by omega)
  simp only [Gm.Ship.cells, List.getElem?_cons_zero, List.getElem?_cons_succ] at z5
  clear hB3 hO3 K3 hW2 k2 f2 hrun ne2 s1 s2 s5 e58
  go_wp2
  go_end0
  exact ⟨⟨_, rfl⟩, by first | exact R3.out | (rw [hAX, hAY]; exact R3.out), HK3.out.put _ _⟩
theorem shoot_any (g : Gm.G) (b B k : Nat) (x y p : Int) (w : World) (hbB : b ≤ B) (hk : k < 8) (h : Has b B g w) (hc : 0 ≤ (g.ship k).cool ∧ (g.ship k).cool ≤ 10) (wx : -128 ≤ x ∧ x ≤ 127) (wy : -128 ≤ y ∧ y ≤ 127) (wp : 0 ≤ p ∧ p ≤ 255) :
    Calls Try.prog 61 #[.pointer (some ⟨B, 0, none⟩), .int .i64 k, .agg #[.int .i8 x, .int .i8 y, .int .u8 p]] w fun e w' => (∃ v, e = .returned v) ∧ Has b B (shotG g k x y p) w' ∧ Keep b B w w' := by
  unfold shotG
  by_cases h0 : 0 < (g.ship k).cool
  · rw [if_pos h0]; exact shoot_cool g b B k x y p w hbB hk h ⟨h0, hc.2⟩
  · rw [if_neg h0]
    by_cases hp : p % 2 = 1 ∧ g.shots.length < 32
    · rw [if_pos hp]; exact shoot_yes g b B k x y p w hbB hk h (by omega) wx wy wp hp.1 hp.2
    · rw [if_neg hp]; exact shoot_rest g b B k x y p w hbB hk h (by omega) wp hp
end Go.Proofs.Ytbihnmingedgfaa
