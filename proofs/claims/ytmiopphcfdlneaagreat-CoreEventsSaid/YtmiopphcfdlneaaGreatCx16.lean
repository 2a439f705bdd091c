/-
Several texts in one: Rv Rr Gk Et Es Eh Ek Rn Er Ra Rat.
-/
import Derived.Test.YtmiopphcfdlneaaGreatCx15
set_option maxRecDepth 100000
set_option maxHeartbeats 8000000
set_option linter.unusedVariables false
set_option linter.unusedSimpArgs false
namespace Go.Proofs.YtmiopphcfdlneaaGreat
open Go.RowKit Go.Shelf
theorem qpc (a b c d : Int) (w : World) : (binOp .neq 33 (.agg #[.int .i64 a, .int .i64 b]) (.agg #[.int .i64 c, .int .i64 d])).run Tryz.prog w = .ok (.bool (!decide (a = c /\ b = d))) w := by
 have h : (Op.equalIn 10000 33 (.agg #[.int .i64 a, .int .i64 b]) (.agg #[.int .i64 c, .int .i64 d])).run Tryz.prog w = .ok (decide (a = c /\ b = d)) w := by
  by_cases h1 : a = c
  · by_cases h2 : b = d
    · subst h1 h2; go_simp <;> simp
    · have h4 : (b == d) = false := by simpa using h2
      subst h1; go_simp <;> simp [h4, h2]
  · have h4 : (a == c) = false := by simpa using h1
    go_simp <;> simp [h4, h1]
 generalize #[Value.int .i64 a, .int .i64 b] = F at *
 generalize #[Value.int .i64 c, .int .i64 d] = G at *
 go_simp
theorem qiv (r : Ros.R) (k : Nat) (gn pe : Int) (w : World) (ht : Ros.qbS r k pe) (hg : gn = r.gen k + 1) :
 Calls Tryz.prog 53 #[.agg (Ros.cells r), .agg #[.int .i64 1, .int .i64 (k : Int), .int .i64 gn, .int .i64 pe]] w fun e w' => e = .returned (.tuple #[.agg (Ros.cells (Ros.take r k pe)), .int .i64 0]) /\ Below w.heap.size w w' := by
 have R0 := qh (((Box.made w 36 (Ros.cells r)).alloc (.cells #[.int .i64 1, .int .i64 (k : Int), .int .i64 gn, .int .i64 pe] 76)).alloc (.cells (Ros.cells qau) 36))
 have E0 := qh ((Box.qaq (n := w.heap.size + 1) (w.alloc (.cells (Ros.cells r) 36)) 76 #[.int .i64 1, .int .i64 (k : Int), .int .i64 gn, .int .i64 pe] (by simp)).alloc (.cells (Ros.cells qau) 36))
 have Z0 := qh (Box.qaq (n := w.heap.size + 1 + 1) ((w.alloc (.cells (Ros.cells r) 36)).alloc (.cells #[.int .i64 1, .int .i64 (k : Int), .int .i64 gn, .int .i64 pe] 76)) 36 (Ros.cells qau) (by simp))
 have K0 := qh ((qap w (.cells (Ros.cells r) 36) (.cells #[.int .i64 1, .int .i64 (k : Int), .int .i64 gn, .int .i64 pe] 76)).alloc (by simp <;> omega) (.cells (Ros.cells qau) 36))
 have ct := fun X => qh (qkK r k pe X ht)
 have hk8 : k < 8 := by have := ht.1.1.2; omega
 have hk8' : (k : Int) < 8 := by omega
 have hk0 : 0 <= (k : Int) := by omega
 have qg : (Ros.cells (Ros.take r k pe))[1 + k * 2 + 1]? = some (.int .i64 (r.gen k + 1)) := (Ros.qbs _ k hk8).trans (by show some (Value.int .i64 (Ros.upd r.gen k (r.gen k + 1) k)) = _; rw [Ros.upd_same])
 have hne : (r.gen k + 1 != gn) = false := by simp [hg]
 clear ht hg
 go_enter Tryz.func53, Tryz.ntmps53
 go_upto_region 4 with (first | (with_reducible refine qaU rfl rfl ?_) | ((with_reducible refine qav rfl rfl ?_); apply qas.mk rfl; (focus first | (with_reducible exact R0.out)); (focus (exact qah))) | (go_at_call 94; ((with_reducible refine ((ct _).out).mono ?_); rintro e w1 ⟨rfl, hb⟩; have R1 := qh ((R0.out.below hb R0.out.lt).alloc (.cells (Ros.cells (Ros.take r k pe)) 36)); have E1 := qh ((E0.out.below hb E0.out.lt).alloc (.cells (Ros.cells (Ros.take r k pe)) 36)); have Z1 := qh ((Z0.out.below hb Z0.out.lt).alloc (.cells (Ros.cells (Ros.take r k pe)) 36)); have N1 := qh (Box.made w1 36 (Ros.cells (Ros.take r k pe))); have K1 := qh ((K0.out.trans (hb.mono K0.out.size)).alloc (Nat.le_trans K0.out.size hb.size) (.cells (Ros.cells (Ros.take r k pe)) 36)); clear hb)) | ((with_reducible refine qaZ rfl rfl rfl rfl rfl ?_)))
 generalize hW1 : w1.alloc (.cells (Ros.cells (Ros.take r k pe)) 36) = W1 at R1 E1 Z1 N1 K1 ⊢
 generalize w1.heap.size = bn at N1 ⊢
 clear hW1 R0 E0 Z0 K0
 have e1 := E1.out.cell
 have n1 := N1.out.cell
 have r1 := R1.out.cell
 have R3 := fun m => qh (R1.out.draws m)
 have N3 := fun m => qh (N1.out.draws m)
 have Z3 := fun m => qh (Z1.out.draws m)
 have K3 := fun m => qh (qaA K1.out m)
 go_quiet (fail)
 go_wp2_with (first | ((with_reducible refine qav rfl rfl ?_); apply qas.mk rfl; (focus first | (with_reducible exact (N3 _).out)); (focus (exact qah))) | ((with_reducible refine qa5 rfl rfl ?_); apply qa6.mk rfl rfl; (focus (with_reducible exact (Z3 _).out)); (focus (exact qah)); (focus rfl); (focus (exact qbr _))))
 refine bodyPost_ret (v := .tuple #[.agg (Ros.cells (Ros.take r k pe)), .int .i64 0]) ?_ ?_ ?_
 · exact results_cell_tmp (p := 4) (q := 5) rfl _ _ _ _ (Ros.cells (Ros.take r k pe)) _ rfl (Box.row (Z3 _).out _) Tryz.underlying36 rfl qah
 · rfl
 · exact ⟨rfl, Below.setRow' (K3 _).out (by omega) _⟩
theorem qhu (r : Ros.R) (k : Nat) (gn pe : Int) (w : World) (ht : Ros.qck r k) (hp : r.peer k = pe) (hg : r.gen k = gn) :
 Calls Tryz.prog 53 #[.agg (Ros.cells r), .agg #[.int .i64 2, .int .i64 (k : Int), .int .i64 gn, .int .i64 pe]] w fun e w' => e = .returned (.tuple #[.agg (Ros.cells (Ros.give r k)), .int .i64 0]) /\ Below w.heap.size w w' := by
 have R0 := qh (((Box.made w 36 (Ros.cells r)).alloc (.cells #[.int .i64 2, .int .i64 (k : Int), .int .i64 gn, .int .i64 pe] 76)).alloc (.cells (Ros.cells qau) 36))
 have E0 := qh ((Box.qaq (n := w.heap.size + 1) (w.alloc (.cells (Ros.cells r) 36)) 76 #[.int .i64 2, .int .i64 (k : Int), .int .i64 gn, .int .i64 pe] (by simp)).alloc (.cells (Ros.cells qau) 36))
 have Z0 := qh (Box.qaq (n := w.heap.size + 1 + 1) ((w.alloc (.cells (Ros.cells r) 36)).alloc (.cells #[.int .i64 2, .int .i64 (k : Int), .int .i64 gn, .int .i64 pe] 76)) 36 (Ros.cells qau) (by simp))
 have K0 := qh ((qap w (.cells (Ros.cells r) 36) (.cells #[.int .i64 2, .int .i64 (k : Int), .int .i64 gn, .int .i64 pe] 76)).alloc (by simp <;> omega) (.cells (Ros.cells qau) 36))
 have ct := fun X => qh (qkR r k X ht)
 have hk8 : k < 8 := by have := ht.1.2; omega
 have hk8' : (k : Int) < 8 := by omega
 have hk0 : 0 <= (k : Int) := by omega
 have qp := Ros.qaQ r k hk8
 have qg := Ros.qbs r k hk8
 have hne := fun W => qpc (r.peer k) (r.gen k) pe gn W
 rw [decide_eq_true (And.intro hp hg), Bool.not_true] at hne
 clear ht hg hp
 go_enter Tryz.func53, Tryz.ntmps53
 go_upto_region 9 with (first | (with_reducible refine qaU rfl rfl ?_) | ((with_reducible refine qav rfl rfl ?_); apply qas.mk rfl; (focus first | (with_reducible exact R0.out)); (focus (exact qah))) | (go_at_call 95; ((with_reducible refine ((ct _).out).mono ?_); rintro e w1 ⟨rfl, hb⟩; have R1 := qh ((R0.out.below hb R0.out.lt).alloc (.cells (Ros.cells (Ros.give r k)) 36)); have E1 := qh ((E0.out.below hb E0.out.lt).alloc (.cells (Ros.cells (Ros.give r k)) 36)); have Z1 := qh ((Z0.out.below hb Z0.out.lt).alloc (.cells (Ros.cells (Ros.give r k)) 36)); have N1 := qh (Box.made w1 36 (Ros.cells (Ros.give r k))); have K1 := qh ((K0.out.trans (hb.mono K0.out.size)).alloc (Nat.le_trans K0.out.size hb.size) (.cells (Ros.cells (Ros.give r k)) 36)); clear hb)) | ((with_reducible refine qaZ rfl rfl rfl rfl rfl ?_)))
 generalize hW1 : w1.alloc (.cells (Ros.cells (Ros.give r k)) 36) = W1 at R1 E1 Z1 N1 K1 ⊢
 generalize w1.heap.size = bn at N1 ⊢
 clear hW1 R0 E0 Z0 K0
 have e1 := E1.out.cell
 have n1 := N1.out.cell
 have r1 := R1.out.cell
 have R3 := fun m => qh (R1.out.draws m)
 have N3 := fun m => qh (N1.out.draws m)
 have Z3 := fun m => qh (Z1.out.draws m)
 have K3 := fun m => qh (qaA K1.out m)
 go_quiet (fail)
 go_wp2_with (first | ((with_reducible refine qav rfl rfl ?_); apply qas.mk rfl; (focus first | (with_reducible exact (N3 _).out)); (focus (exact qah))) | ((with_reducible refine qa5 rfl rfl ?_); apply qa6.mk rfl rfl; (focus (with_reducible exact (Z3 _).out)); (focus (exact qah)); (focus rfl); (focus (exact qbr _))))
 refine bodyPost_ret (v := .tuple #[.agg (Ros.cells (Ros.give r k)), .int .i64 0]) ?_ ?_ ?_
 · exact results_cell_tmp (p := 4) (q := 5) rfl _ _ _ _ (Ros.cells (Ros.give r k)) _ rfl (Box.row (Z3 _).out _) Tryz.underlying36 rfl qah
 · rfl
 · exact ⟨rfl, Below.setRow' (K3 _).out (by omega) _⟩
theorem qju (s : Fd.S) (v : En.Ev) (w : World) (hv : Fd.qcK s v) :
 Calls Tryz.prog 53 #[.agg (Ros.cells s.r), .agg #[.int .i64 v.kind, .int .i64 v.slot, .int .i64 v.gen, .int .i64 v.peer]] w fun e w' => e = .returned (.tuple #[.agg (Ros.cells (Fd.after s v).r), .int .i64 0]) /\ Below w.heap.size w w' := by
 rcases hv with ⟨hk, ht, hg⟩ | ⟨hk, ht, hp, hg⟩
 · obtain ⟨k, hk8, e, e', hpk, ht', hp0⟩ := Fd.qie ht
   unfold Fd.after
   rw [if_pos hk, e', hk, e]
   exact qiv s.r k v.gen v.peer w ht' (by rw [hg, e'])
 · obtain ⟨k, hk8, e, e', hpk, ht'⟩ := Fd.qiN ht
   unfold Fd.after
   rw [if_neg (by omega), e', hk, e]
   exact qhu s.r k v.gen v.peer w ht' (by rw [<- hp, e']) (by rw [<- hg, e'])
theorem qmc : (Tryz.prog.info? 27).map (·.size) = some 7 := by kernel_rfl
theorem qky (g : Gm.G) (s : Value) (i : Nat) (hi : i < 8) (u : Gm.Ship) : splice (Gm.cells g s) (2 + i * 7) u.cells = Gm.cells { g with ship := Gm.upd g.ship i u } s := by
 match i, hi with
 | 0, _ | 1, _ | 2, _ | 3, _ | 4, _ | 5, _ | 6, _ | 7, _ => rfl
section
variable {ops : Array Oper} {rest : List Oper} {o : Oper} {a : Act} {w : World} {Q : Exit -> Act -> World -> Prop} {x y : Operand} {dst : Option Tmp} {p v : Value}
def qe7 (ops : Array Oper) (Q : Exit -> Act -> World -> Prop) (rest : List Oper) (dst : Option Tmp) (p v : Value) (a : Act) (w : World) : Prop :=
 ∃ (B i : Nat) (g : Gm.G) (s : Value) (u : Gm.Ship), p = .pointer (some ⟨B, 2 + i * 7, none⟩) /\ v = .agg u.cells.toArray /\ i < 8 /\ Box w B 31 (Gm.cells g s) /\ wpList Tryz.prog ops Q rest (a.put dst undef) (w.setRow B (Gm.cells { g with ship := Gm.upd g.ship i u } s))
theorem qe7.mk {B i : Nat} {g : Gm.G} {s : Value} {u : Gm.Ship} (hp : p = .pointer (some ⟨B, 2 + i * 7, none⟩)) (hv : v = .agg u.cells.toArray) (hi : i < 8) (hB : Box w B 31 (Gm.cells g s)) (h : wpList Tryz.prog ops Q rest (a.put dst undef) (w.setRow B (Gm.cells { g with ship := Gm.upd g.ship i u } s))) : qe7 ops Q rest dst p v a w := ⟨B, i, g, s, u, hp, hv, hi, hB, h⟩
theorem qiM (hgd : o.guard = none) (ho : o.op = .store 27 x y) (h : qe7 ops Q rest o.dst (a.eval x) (a.eval y) a w) : wpList Tryz.prog ops Q (o :: rest) a w := by
 obtain ⟨B, i, g, s, u, hx, hy, hi, hB, h⟩ := h
 refine wpList_store_mid hgd 27 x y ho B (2 + i * 7) u.cells.toArray hx hy (hB.there _ _ (by rw [Gm.qaf]; show 2 + i * 7 + 7 <= 59; omega)) qmc (by simp [Gm.Ship.cells, Value.oneCell']) ?_
 rw [qbP B 31 _ (2 + i * 7) (Gm.cells g s) w hB.is (by rw [Gm.qaf]; show 2 + i * 7 + 7 <= 59; omega), qky g s i hi u]
 exact h
end
theorem qiu (g : Gm.G) (A : Option Addr) (n c i : Nat) (w : World) (hg : Gm.ok g) (hn : n = g.qaa.length) (hr : Lies w w.heap.size 6 A n (Gm.qad g.qaa)) (hi : i < 8) (ho : (g.ship i).on = true) :
 Calls Tryz.prog 71 #[.agg (Gm.cells g (.slice A n c)), .int .i64 i] w (Out (Gm.remove g i) 0 w) := by
 have b1 : Box ((w.alloc (.cells (Gm.cells g (.slice A n c)) 31)).alloc (.cells (Gm.cells qbx (.slice none 0 0)) 31)) w.heap.size 31 (Gm.cells g (.slice A n c)) := (Box.made _ _ _).alloc _
 have b2 : Box ((w.alloc (.cells (Gm.cells g (.slice A n c)) 31)).alloc (.cells (Gm.cells qbx (.slice none 0 0)) 31)) (w.heap.size + 1) 31 (Gm.cells qbx (.slice none 0 0)) := Box.qaq _ _ _ (by simp)
 have hb0 := qap w (.cells (Gm.cells g (.slice A n c)) 31) (.cells (Gm.cells qbx (.slice none 0 0)) 31)
 have cm := qh (qfn g A n c _ hg hn ((hr.below hb0).wider hb0.size))
 have q0 : (Gm.cells g (.slice A n c))[2 + i * 7]? = some (.bool true) := (Gm.qae g _ i 0 hi (by omega)).trans (by show some (Value.bool (g.ship i).on) = _; rw [ho])
 have hi8 : (i : Int) < 8 := by omega
 have hi0 : ¬ (i : Int) < 0 := by omega
 obtain ⟨i0, hi1, hz0, hz1, hz2⟩ := info_parts qdo
 have hI := qh hi1
 have hZ := qh hz0
 have hS := qh hz1
 have hY := qh hz2
 have HI := qh hi
 have HR := qh hr
 have hN := qh hn
 have h32 : n <= 32 := by rw [hn]; exact hg.2.2.1
 have HB := qh hb0
 have B1 := qh b1
 have B2 := qh b2
 clear hr hn b1 b2 hb0 ho hg hi1 hz0 hz1 hz2 hi
 go_enter Tryz.func71, Tryz.ntmps71
 go_upto_region 3 with (first | (refine qaK rfl rfl ?_) | ((with_reducible refine qaF rfl rfl ?_); apply qaN.mk rfl; (with_reducible exact B1.out)) | (go_at_call 66; ((with_reducible refine (cm.out).mono ?_); rintro e w1 ⟨rfl, hb⟩; have C1 := qh (B1.out.below hb (by simp <;> omega)); have C2 := qh (B2.out.below hb (by simp <;> omega)); have cc := C1.out.cell; have cl := C1.out.lt; have hbb := HB.out.trans (hb.mono HB.out.size); have HBB := qh hbb; have s1 : w.heap.size + 1 + 1 <= w1.heap.size := (by have := hb.size; simp at this; omega); clear hb hbb)))
 obtain ⟨G, hG⟩ : ∃ G : Gm.G, G = { g with ship := Gm.upd g.ship i Gm.Ship.none } := ⟨_, rfl⟩
 have D1 := qh (C1.out.row (Gm.cells G (.slice A n c)))
 have D2 := qh (C2.out.qbn (show w.heap.size + 1 ≠ w.heap.size by omega) (Gm.cells G (.slice A n c)))
 have DD := qh (Below.setRow' HBB.out (Nat.le_refl _) (Gm.cells G (.slice A n c)))
 have hsz : (w1.setRow w.heap.size (Gm.cells G (.slice A n c))).heap.size = w1.heap.size := setRow_size _ _ _
 have HG := qh hG
 subst hG
 go_upto_region 4 with ((with_reducible refine qiM rfl rfl ?_); apply qe7.mk (u := Gm.Ship.none) rfl rfl HI.out; (focus (with_reducible exact C1.out)); dsimp only)
 generalize hW2 : w1.setRow w.heap.size (Gm.cells { g with ship := Gm.upd g.ship i Gm.Ship.none } (.slice A n c)) = W2 at D1 D2 DD hsz ⊢
 clear C1 C2 cc cl hW2 HBB B1 B2 HB cm q0
 have hn := hN.out
 subst hn
 have X0 := qh (show qcp g g.qaa ⟨g.dice, Gm.upd g.ship i Gm.Ship.none, []⟩ A c w W2 (w.heap.size + 1) w.heap.size (w.heap.size + 1 + 1) (.slice none 0 0) from
  ⟨D1.out, ((HR.out.below DD.out).wider (by omega)), ⟨none, 0, rfl, World.ownsRow_nil _ _ _ _⟩, D2.out, DD.out, by omega⟩)
 clear D1 D2 DD hsz
 go_wp2
 go_loopw [6, 7] (fun s6 ii wr => ∃ k : Nat, k <= g.qaa.length /\ ii = .int .i64 k /\ qcp g g.qaa ⟨g.dice, Gm.upd g.ship i Gm.Ship.none, (g.qaa.take k).filter (oth i)⟩ A c w wr (w.heap.size + 1) w.heap.size (w.heap.size + 1 + 1) s6) (fun _ ii _ => g.qaa.length - (intOf ii).toNat)
 case atStart => exact ⟨0, Nat.zero_le _, rfl, X0.out⟩
 case round =>
  obtain ⟨k, hk, rfl, hX⟩ := hrel
  clear X0
  have e58 := Gm.qbc { g with dice := g.dice, ship := Gm.upd g.ship i Gm.Ship.none } (.slice A g.qaa.length c)
  have gc := hX.game.cell
  have gl := hX.game.lt
  dsimp only at gc
  by_cases hlt : k < g.qaa.length
  · have hk8 : (k : Int) < g.qaa.length := by omega
    obtain ⟨ad, rfl, hbl, a0, a1, a2, a3, a4, a5⟩ := qd0 hX.qaa rfl k hlt
    have hsn := qh (qlN i g.qaa k hlt)
    obtain ⟨A3, c3, hs6, hO⟩ := hX.left
    have hlen : ((g.qaa.take k).filter (oth i)).length <= k := Nat.le_trans (List.length_filter_le _ _) (by rw [List.length_take]; omega)
    generalize hLF : (g.qaa.take k).filter (oth i) = left at *
    obtain ⟨s, hs⟩ : ∃ s, s = g.qaa[k] := ⟨_, rfl⟩
    rw [<- hs] at a0 a1 a2 a3 a4 a5
    have HSS := qh hs
    have hso : Hid (oth i s = decide (s.owner ≠ i)) := qh rfl
    obtain ⟨so, sx, sy, svx, svy, sl⟩ := s
    dsimp only at a0 a1 a2 a3 a4 a5 hs6 hO
    subst hs6
    have HX := qh hX
    have HOO := qh hO
    have ltA : ad.block < wr.heap.size := by have := hX.size; omega
    have hsz2 := hX.size
    clear hs hX hO hLF
    by_cases h1 : so = i
    · have HO := qh (show oth i ⟨so, sx, sy, svx, svy, sl⟩ = false from hso.out.trans (decide_eq_false (by simpa using h1)))
      subst h1
      go_wp2
      go_roundw
      case rel =>
       refine ⟨k + 1, by omega, by go_num, ?_⟩
       rw [hsn.out, <- HSS.out, HO.out]
       simp only [Bool.false_eq_true, if_false, List.append_nil]
       exact HX.out
      case measure => simp [intOf]; omega
    · have HO := qh (show oth i ⟨so, sx, sy, svx, svy, sl⟩ = true from hso.out.trans (decide_eq_true (by simpa using h1)))
      have hne : (so != i) = true := by simpa using h1
      clear hso
      go_wp2_with ((with_reducible refine qb5 (x := .tmp 47) (y := .tmp 53) (t := 29) (e := 80) (size := 6) (bytes := 32) rfl rfl Tryz.underlying29 hI.out hZ.out hS.out hY.out rfl (by decide) ?_); refine qdk.mk rfl (HOO.out.alloc _) (qdT wr 80 ⟨so, sx, sy, svx, svy, sl⟩) (qbG _) (by unfold maxLen; omega) (by omega) (by simp <;> omega) ?_; intro A4 k4 w2 own2 hg2; have SH2 := qh (qgw HX.out HOO.out own2 hg2 (by omega)); clear own2 hg2)
      go_roundw
      case rel =>
       refine ⟨k + 1, by omega, by go_num, ?_⟩
       rw [hsn.out, <- HSS.out, HO.out]
       exact SH2.out
      case measure => simp [intOf]; omega
  · have hk8 : ¬ (k : Int) < g.qaa.length := by omega
    obtain rfl : k = g.qaa.length := by omega
    rw [List.take_length] at hX
    obtain ⟨A3, c3, hs6, hO⟩ := hX.left
    dsimp only at hs6 hO
    generalize hfin : g.qaa.filter (oth i) = fin at *
    subst hs6
    have HF := qh hfin
    have nO := hX.game.qaM hO (by decide)
    have G4 := qh (show Box (wr.setCell ⟨w.heap.size, 58, none⟩ (.slice A3 fin.length c3)) w.heap.size 31 (Gm.cells (Gm.remove g i) (.slice A3 fin.length c3)) from qch (g := Gm.remove g i) hX.game _)
    have R4 := qh (hX.res.far (p := ⟨w.heap.size, 58, none⟩) (show w.heap.size + 1 ≠ w.heap.size by omega) (.slice A3 fin.length c3))
    have O4 := qh (ownsRow_setCell_other (a := ⟨w.heap.size, 58, none⟩) hO nO (.slice A3 fin.length c3))
    have K4 := qh (hX.below.setCell (p := ⟨w.heap.size, 58, none⟩) (Nat.le_refl _) (.slice A3 fin.length c3))
    have gf := hX.game.free
    clear hX hO hfin nO
    go_wp2_with (first | ((with_reducible refine qaF rfl rfl ?_); apply qaN.mk rfl; exact G4.out) | ((with_reducible refine qbq rfl rfl ?_); apply qbm.mk rfl rfl rfl; exact R4.out))
    have hfl : Hid ((Gm.remove g i).qaa.length = fin.length) := qh (by rw [<- HF.out]; rfl)
    refine bodyPost_ret (v := .tuple #[.agg (Gm.cells (Gm.remove g i) (.slice A3 fin.length c3)), .int .i64 0]) ?_ ?_ ?_
    · exact results_cell_tmp (p := 4) (q := 5) rfl _ _ _ _ (Gm.cells (Gm.remove g i) (.slice A3 fin.length c3)) _ rfl (Box.row R4.out _) Tryz.underlying31 rfl qbh
    · rfl
    · refine ⟨A3, c3, by rw [hfl.out], ?_, Below.setRow' K4.out (by omega) _⟩
      have := Lies.owned (qbi O4.out (R4.out.qaM O4.out (by decide)) (Gm.cells (Gm.remove g i) (.slice A3 fin.length c3)))
      rw [hfl.out, show Gm.qad (Gm.remove g i).qaa = Gm.qad fin from by rw [<- HF.out]; rfl]
      exact this
open Go.RowKit
def qku (w1 : World) (B i : Nat) (x y d : Int) : World :=
 (((((((w1.setCell ⟨B, 1, none⟩ (.int .u64 d)).setCell ⟨B, 2 + i * 7, none⟩ (.bool true)).setCell ⟨B, 2 + i * 7 + 1, none⟩ (.int .i32 x)).setCell ⟨B, 2 + i * 7 + 2, none⟩ (.int .i32 y)).setCell ⟨B, 2 + i * 7 + 3, none⟩ (.int .i32 0)).setCell ⟨B, 2 + i * 7 + 4, none⟩ (.int .i32 0)).setCell ⟨B, 2 + i * 7 + 5, none⟩ (.int .i64 0)).setCell ⟨B, 2 + i * 7 + 6, none⟩ (.int .i64 0)
theorem qkt {w1 : World} {B i : Nat} {g : Gm.G} {s : Value} (c1 : Box w1 B 31 (Gm.cells g s)) (hi : i < 8) (x y d : Int) :
 Box (qku w1 B i x y d) B 31 (Gm.cells { g with dice := d, ship := Gm.upd g.ship i ⟨true, x, y, 0, 0, 0, 0⟩ } s) := qdH (qgh c1 d) hi ⟨true, x, y, 0, 0, 0, 0⟩
theorem qig {w1 : World} {B B' i : Nat} {t : TypeId} {cs : Array Value} (c2 : Box w1 B' t cs) (hne : B' ≠ B) (x y d : Int) : Box (qku w1 B i x y d) B' t cs :=
 (((((((c2.far hne _).far hne _).far hne _).far hne _).far hne _).far hne _).far hne _).far hne _
theorem qih {w0 w1 : World} {C B i : Nat} (h : Below C w0 w1) (hC : C <= B) (x y d : Int) : Below C w0 (qku w1 B i x y d) :=
 (((((((h.setCell hC _).setCell hC _).setCell hC _).setCell hC _).setCell hC _).setCell hC _).setCell hC _).setCell hC _
theorem qit (g : Gm.G) (A : Option Addr) (n c i : Nat) (x y d : Int) (w : World) (hg : Gm.ok g) (hd : 0 <= g.dice /\ g.dice <= 18446744073709551615) (hn : n = g.qaa.length) (hr : Lies w w.heap.size 6 A n (Gm.qad g.qaa)) (hi : i < 8) (ho : (g.ship i).on = false)
 (hx : Dn.share (Dn.next g.dice) 16777216 = x) (hy : Dn.share (Dn.next (Dn.next g.dice)) 16777216 = y) (hdd : Dn.next (Dn.next g.dice) = d) :
 Calls Tryz.prog 72 #[.agg (Gm.cells g (.slice A n c)), .int .i64 i] w fun e w' => e = .returned (.tuple #[.agg (Gm.cells { g with dice := d, ship := Gm.upd g.ship i ⟨true, x, y, 0, 0, 0, 0⟩ } (.slice A n c)), .int .i64 0]) /\ Below w.heap.size w w' := by
 have b1 : Box ((w.alloc (.cells (Gm.cells g (.slice A n c)) 31)).alloc (.cells (Gm.cells qbx (.slice none 0 0)) 31)) w.heap.size 31 (Gm.cells g (.slice A n c)) := (Box.made _ _ _).alloc _
 have b2 : Box ((w.alloc (.cells (Gm.cells g (.slice A n c)) 31)).alloc (.cells (Gm.cells qbx (.slice none 0 0)) 31)) (w.heap.size + 1) 31 (Gm.cells qbx (.slice none 0 0)) := Box.qaq _ _ _ (by simp)
 have hb0 := qap w (.cells (Gm.cells g (.slice A n c)) 31) (.cells (Gm.cells qbx (.slice none 0 0)) 31)
 have cm := qh (qfn g A n c _ hg hn ((hr.below hb0).wider hb0.size))
 have cp := fun X => qh (qfG g.dice hd X)
 rw [hx, hy, hdd] at cp
 have hi8 : (i : Int) < 8 := by omega
 obtain ⟨t, ht⟩ : ∃ t, t = g.ship i := ⟨_, rfl⟩
 have q0 : (Gm.cells g (.slice A n c))[2 + i * 7]? = some (.bool false) := (Gm.qae g _ i 0 hi (by omega)).trans (by show some (Value.bool (g.ship i).on) = _; rw [ho])
 have q1 : (Gm.cells g (.slice A n c))[2 + i * 7 + 1]? = some (.int .i32 t.x) := (Gm.qae g _ i 1 hi (by omega)).trans (by rw [ht]; rfl)
 have q2 : (Gm.cells g (.slice A n c))[2 + i * 7 + 2]? = some (.int .i32 t.y) := (Gm.qae g _ i 2 hi (by omega)).trans (by rw [ht]; rfl)
 have q3 : (Gm.cells g (.slice A n c))[2 + i * 7 + 3]? = some (.int .i32 t.vx) := (Gm.qae g _ i 3 hi (by omega)).trans (by rw [ht]; rfl)
 have q4 : (Gm.cells g (.slice A n c))[2 + i * 7 + 4]? = some (.int .i32 t.vy) := (Gm.qae g _ i 4 hi (by omega)).trans (by rw [ht]; rfl)
 have q5 : (Gm.cells g (.slice A n c))[2 + i * 7 + 5]? = some (.int .i64 t.cool) := (Gm.qae g _ i 5 hi (by omega)).trans (by rw [ht]; rfl)
 have q6 : (Gm.cells g (.slice A n c))[2 + i * 7 + 6]? = some (.int .i64 t.score) := (Gm.qae g _ i 6 hi (by omega)).trans (by rw [ht]; rfl)
 have e1 := Gm.qcg g (.slice A n c)
 have hbz := qh hb0
 have B1 := qh b1
 have B2 := qh b2
 clear ht hn hr hb0 b1 b2 hx hy hdd ho hg
 go_enter Tryz.func72, Tryz.ntmps72
 go_wp2_with (first | (refine qaK rfl rfl ?_) | ((with_reducible refine qaF rfl rfl ?_); apply qaN.mk rfl; (with_reducible exact B1.out)) | ((with_reducible refine qaF rfl rfl ?_); apply qaN.mk rfl; exact F1.out) | (go_at_call 66; ((with_reducible refine (cm.out).mono ?_); rintro e w1 ⟨rfl, hb⟩; have c1 := B1.out.below hb (by simp; omega); have c2 := B2.out.below hb (by simp); have cc := c1.cell; have cf := c1.free; have cl := c1.lt; have hbb := qh (hbz.out.trans (hb.mono hbz.out.size)); have F1 := qh (qkt c1 hi x y d); have F2 := qh (qig (B := w.heap.size) (i := i) c2 (by omega) x y d); clear c1 c2 hb)) | (go_at_call 108; ((with_reducible refine ((cp _).out).mono ?_); rintro e w' ⟨rfl, rfl⟩)) | (refine qaT rfl (t := 27) (vs := [(0, .bool true), (1, .int .i32 x), (2, .int .i32 y)]) rfl rfl (qlr _ _) ?_) | ((with_reducible refine qbq rfl rfl ?_); apply qbm.mk rfl rfl rfl; exact F2.out))
 refine bodyPost_ret (v := .tuple #[.agg (Gm.cells { g with dice := d, ship := Gm.upd g.ship i ⟨true, x, y, 0, 0, 0, 0⟩ } (.slice A n c)), .int .i64 0]) ?_ ?_ ?_
 · exact results_cell_tmp (p := 4) (q := 5) rfl _ _ _ _ (Gm.cells { g with dice := d, ship := Gm.upd g.ship i ⟨true, x, y, 0, 0, 0, 0⟩ } (.slice A n c)) _ rfl (Box.row F2.out _) Tryz.underlying31 rfl qbh
 · rfl
 · exact ⟨rfl, Below.setRow' (qih hbb.out (Nat.le_refl _) x y d) (by omega) _⟩
theorem qjq (g : Gm.G) (A : Option Addr) (n c i : Nat) (w : World) (hg : Gm.ok g) (hd : 0 <= g.dice /\ g.dice <= 18446744073709551615) (hn : n = g.qaa.length) (hr : Lies w w.heap.size 6 A n (Gm.qad g.qaa)) (hi : i < 8) (ho : (g.ship i).on = false) :
 Calls Tryz.prog 72 #[.agg (Gm.cells g (.slice A n c)), .int .i64 i] w fun e w' => e = .returned (.tuple #[.agg (Gm.cells (Gm.spawn g i) (.slice A n c)), .int .i64 0]) /\ Below w.heap.size w w' :=
 qit g A n c i _ _ _ w hg hd hn hr hi ho rfl rfl rfl
end Go.Proofs.YtmiopphcfdlneaaGreat
namespace En
open Go
end En
namespace Go.Proofs.YtmiopphcfdlneaaGreat
open Go.RowKit Go.Shelf
end Go.Proofs.YtmiopphcfdlneaaGreat
namespace En
open Go
end En
namespace Go.Proofs.YtmiopphcfdlneaaGreat
open Go.RowKit Go.Shelf
end Go.Proofs.YtmiopphcfdlneaaGreat
namespace En
open Go
end En
namespace Go.Proofs.YtmiopphcfdlneaaGreat
open Go.RowKit Go.Shelf
section
variable {ops : Array Oper} {rest : List Oper} {o : Oper} {a : Act} {w : World} {Q : Exit -> Act -> World -> Prop} {x : Operand} {dst : Option Tmp} {v : Value}
end
namespace En
end En
end Go.Proofs.YtmiopphcfdlneaaGreat
namespace Sx
open Go Im
end Sx
namespace Go.Proofs.YtmiopphcfdlneaaGreat
open Go.RowKit Go.Shelf
section
variable {B b : Nat} {w w' w'' : World}
end
section
variable {B : Nat} {w w' : World} {o : Option (List Int)}
end
end Go.Proofs.YtmiopphcfdlneaaGreat
namespace En
open Go
def At (kd sl z : Int) : Prop := (kd = 2 /\ (-1 <= sl /\ sl <= 7) /\ z = sl) \/ (kd = 1 /\ (0 <= sl /\ sl <= 7) /\ z = 8 + sl)
end En
namespace Go.Proofs.YtmiopphcfdlneaaGreat
open Go.RowKit Go.Shelf
theorem qjs (x y b : Int) (w : World) (hx : -128 <= x) (hy : -128 <= y) :
 Calls Tryz.prog 107 #[.agg #[.int .i8 x, .int .i8 y, .int .u8 b]] w fun e w' => e = .returned (.bool (decide (-127 <= x /\ -127 <= y))) /\ Below w.heap.size w w' := by
 by_cases h1 : x = -128
 · subst h1
   go_enter Tryz.func107, Tryz.ntmps107
   go_wp2
   go_ret
   exact ⟨qal (by simp), qac _ _⟩
 · have e1 : (x != -128) = true := by simpa using h1
   by_cases h2 : y = -128
   · subst h2
     go_enter Tryz.func107, Tryz.ntmps107
     go_wp2
     go_ret
     exact ⟨qal (by simp), qac _ _⟩
   · have e2 : (y != -128) = true := by simpa using h2
     have hd : decide (-127 <= x /\ -127 <= y) = true := decide_eq_true (by omega)
     rw [hd]
     go_enter Tryz.func107, Tryz.ntmps107
     go_wp2
     go_ret
     exact ⟨qal (by simp), qac _ _⟩
theorem qjt (e : En.E) (A : Option Addr) (n c : Nat) (w : World) (hn : n = e.evs.length) (hn63 : n <= maxLen) (hty : ∀ i, i < 8 -> Gm.tyIn (e.inp i)) (hL : Lies w w.heap.size 4 A n (En.qa2 e.evs)) :
 Calls Tryz.prog 70 #[.agg (En.cells e (.slice A n c))] w fun r w' => r = .returned (.bool (decide (En.Ok e))) /\ Below w.heap.size w w' := by
 obtain ⟨d, hv⟩ : ∃ d, d = decide (En.Ok e) := ⟨_, rfl⟩
 rw [<- hv]
 have HV := qh hv
 have HN := qh hn
 clear hv hn
 have P0 := qh (Box.made w 52 (En.cells e (.slice A n c)))
 have K0 := qh (qac w (.cells (En.cells e (.slice A n c)) 52))
 have hr0 := qh ((hL.below K0.out).wider K0.out.size)
 have c0 := P0.out.cell 0
 have c1 := P0.out.cell 1
 rw [En.qa1] at c0
 rw [En.qcg] at c1
 have n63 : (n : Int) <= 9223372036854775807 := by unfold maxLen at hn63; omega
 clear hL hn63
 by_cases hf1 : e.frame < 0
 · have hno := qh (show ¬ En.Ok e from fun h => by have := h.frame; omega)
   go_enter Tryz.func70, Tryz.ntmps70
   go_wp2
   go_ret
   exact ⟨qal (by rw [HV.out]; exact (decide_eq_false hno.out).symm), K0.out⟩
 by_cases hf2 : 1048576 <= e.frame
 · have hno := qh (show ¬ En.Ok e from fun h => by have := h.frame; omega)
   go_enter Tryz.func70, Tryz.ntmps70
   go_wp2
   go_ret
   exact ⟨qal (by rw [HV.out]; exact (decide_eq_false hno.out).symm), K0.out⟩
 have HF := qh (show 0 <= e.frame /\ e.frame < 1048576 by omega)
 go_enter Tryz.func70, Tryz.ntmps70
 go_wp2
 go_loopw [3, 4, 5] (fun kv sv i wr => ∃ (k : Nat) (kd sl z : Int), k <= n /\ i = .int .i64 k /\ kv = .int .i64 kd /\ sv = .int .i64 sl /\ En.At kd sl z /\ (En.Row (-1) e.evs ↔ En.Row z (e.evs.drop k)) /\ Below (w.alloc (.cells (En.cells e (.slice A n c)) 52)).heap.size (w.alloc (.cells (En.cells e (.slice A n c)) 52)) wr) (fun _ _ i _ => n - (intOf i).toNat)
 case atStart => exact ⟨0, 2, -1, -1, by omega, rfl, rfl, rfl, .inl ⟨rfl, by omega, rfl⟩, Iff.rfl, Below.refl _ _⟩
 case round =>
  obtain ⟨k, kd, sl, z, hk, rfl, rfl, rfl, hat, hrow, hb⟩ := hrel
  have p1 := ((P0.out.below hb P0.out.lt).cell 1).trans (En.qcg _ _)
  have HB := qh hb
  have KB := qh (K0.out.trans (hb.mono K0.out.size))
  by_cases hlt : k < n
  · have hk8 : (k : Int) < n := by omega
    have hkl : k < e.evs.length := by have := HN.out; omega
    obtain ⟨ad, rfl, hbl, e0, e1, e2, e3⟩ := qj1 (hr0.out.below hb) HN.out k hkl
    rw [List.drop_eq_getElem_cons hkl] at hrow
    generalize hv : e.evs[k] = v at e0 e1 e2 e3 hrow
    obtain ⟨vk, vs, vg, vp⟩ := v
    dsimp only at e0 e1 e2 e3
    have hrow' : En.Row (-1) e.evs ↔ (En.evOk ⟨vk, vs, vg, vp⟩ /\ z < En.place ⟨vk, vs, vg, vp⟩) /\ En.Row (En.place ⟨vk, vs, vg, vp⟩) (e.evs.drop (k + 1)) := hrow
    have HW := qh hrow'
    have sz := hb.size
    have ltA : ad.block < wr.heap.size := Nat.lt_of_lt_of_le hbl hb.size
    have ltP := (P0.out.below hb P0.out.lt).lt
    have Q1 := qh (Box.made wr 76 #[.int .i64 vk, .int .i64 vs, .int .i64 vg, .int .i64 vp])
    have K1 := qh (KB.out.alloc KB.out.size (.cells #[.int .i64 vk, .int .i64 vs, .int .i64 vg, .int .i64 vp] 76))
    have KX := qh (HB.out.alloc HB.out.size (.cells #[.int .i64 vk, .int .i64 vs, .int .i64 vg, .int .i64 vp] 76))
    have q1 := Q1.out.cell
    have HAT := qh hat
    clear hrow hrow' hb hv hat
    rcases HAT.out with ⟨rfl, hs, rfl⟩ | ⟨rfl, hs, rfl⟩
    · by_cases k1 : vk = 1
      · subst k1
        have HPL := qh (show En.place ⟨1, vs, vg, vp⟩ = 8 + vs from rfl)
        by_cases t1 : vs <= -1
        · have HNO := qh (show ¬ (En.evOk ⟨1, vs, vg, vp⟩ /\ z < En.place ⟨1, vs, vg, vp⟩) from fun h => by obtain ⟨⟨_, h2, _⟩, h5⟩ := h; rw [HPL.out] at h5; dsimp only at h2 h5; omega)
          go_wp2
          go_ret
          exact ⟨qal (by rw [HV.out]; exact (decide_eq_false fun h => absurd (HW.out.1 h.row).1 HNO.out).symm), K1.out⟩
        by_cases t2 : 8 <= vs
        · have HNO := qh (show ¬ (En.evOk ⟨1, vs, vg, vp⟩ /\ z < En.place ⟨1, vs, vg, vp⟩) from fun h => by obtain ⟨⟨_, h2, h3, h4⟩, _⟩ := h; dsimp only at h2 h3 h4; omega)
          go_wp2
          go_ret
          exact ⟨qal (by rw [HV.out]; exact (decide_eq_false fun h => absurd (HW.out.1 h.row).1 HNO.out).symm), K1.out⟩
        by_cases t3 : vg < 1
        · have HNO := qh (show ¬ (En.evOk ⟨1, vs, vg, vp⟩ /\ z < En.place ⟨1, vs, vg, vp⟩) from fun h => by obtain ⟨⟨_, h2, h3, h4⟩, _⟩ := h; dsimp only at h2 h3 h4; omega)
          go_wp2
          go_ret
          exact ⟨qal (by rw [HV.out]; exact (decide_eq_false fun h => absurd (HW.out.1 h.row).1 HNO.out).symm), K1.out⟩
        by_cases t4 : 60000 < vg
        · have HNO := qh (show ¬ (En.evOk ⟨1, vs, vg, vp⟩ /\ z < En.place ⟨1, vs, vg, vp⟩) from fun h => by obtain ⟨⟨_, h2, h3, h4⟩, _⟩ := h; dsimp only at h2 h3 h4; omega)
          go_wp2
          go_ret
          exact ⟨qal (by rw [HV.out]; exact (decide_eq_false fun h => absurd (HW.out.1 h.row).1 HNO.out).symm), K1.out⟩
        by_cases t5 : vp < 0
        · have HNO := qh (show ¬ (En.evOk ⟨1, vs, vg, vp⟩ /\ z < En.place ⟨1, vs, vg, vp⟩) from fun h => by obtain ⟨⟨_, h2, h3, h4⟩, _⟩ := h; dsimp only at h2 h3 h4; omega)
          go_wp2
          go_ret
          exact ⟨qal (by rw [HV.out]; exact (decide_eq_false fun h => absurd (HW.out.1 h.row).1 HNO.out).symm), K1.out⟩
        by_cases t6 : 12 <= vp
        · have HNO := qh (show ¬ (En.evOk ⟨1, vs, vg, vp⟩ /\ z < En.place ⟨1, vs, vg, vp⟩) from fun h => by obtain ⟨⟨_, h2, h3, h4⟩, _⟩ := h; dsimp only at h2 h3 h4; omega)
          go_wp2
          go_ret
          exact ⟨qal (by rw [HV.out]; exact (decide_eq_false fun h => absurd (HW.out.1 h.row).1 HNO.out).symm), K1.out⟩
        have HNX := qh (show En.Row (-1) e.evs ↔ En.Row (8 + vs) (e.evs.drop (k + 1)) from by rw [HW.out, HPL.out]; exact ⟨fun h => h.2, fun h => ⟨⟨⟨by first | exact .inl rfl | exact .inr rfl, by dsimp only; omega, by dsimp only; omega, by dsimp only; omega⟩, by (try dsimp only); omega⟩, h⟩⟩)
        go_wp2
        go_roundw
        case rel => exact ⟨k + 1, 1, vs, 8 + vs, by omega, by go_num, rfl, rfl, .inr ⟨rfl, by omega, rfl⟩, HNX.out, KX.out⟩
        case measure => simp [intOf]; omega
      · by_cases k2 : vk = 2
        · subst k2
          have HPL := qh (show En.place ⟨2, vs, vg, vp⟩ = vs from rfl)
          by_cases t1 : vs <= z
          · have HNO := qh (show ¬ (En.evOk ⟨2, vs, vg, vp⟩ /\ z < En.place ⟨2, vs, vg, vp⟩) from fun h => by obtain ⟨⟨_, h2, _⟩, h5⟩ := h; rw [HPL.out] at h5; dsimp only at h2 h5; omega)
            go_wp2
            go_ret
            exact ⟨qal (by rw [HV.out]; exact (decide_eq_false fun h => absurd (HW.out.1 h.row).1 HNO.out).symm), K1.out⟩
          by_cases t2 : 8 <= vs
          · have HNO := qh (show ¬ (En.evOk ⟨2, vs, vg, vp⟩ /\ z < En.place ⟨2, vs, vg, vp⟩) from fun h => by obtain ⟨⟨_, h2, h3, h4⟩, _⟩ := h; dsimp only at h2 h3 h4; omega)
            go_wp2
            go_ret
            exact ⟨qal (by rw [HV.out]; exact (decide_eq_false fun h => absurd (HW.out.1 h.row).1 HNO.out).symm), K1.out⟩
          by_cases t3 : vg < 1
          · have HNO := qh (show ¬ (En.evOk ⟨2, vs, vg, vp⟩ /\ z < En.place ⟨2, vs, vg, vp⟩) from fun h => by obtain ⟨⟨_, h2, h3, h4⟩, _⟩ := h; dsimp only at h2 h3 h4; omega)
            go_wp2
            go_ret
            exact ⟨qal (by rw [HV.out]; exact (decide_eq_false fun h => absurd (HW.out.1 h.row).1 HNO.out).symm), K1.out⟩
          by_cases t4 : 60000 < vg
          · have HNO := qh (show ¬ (En.evOk ⟨2, vs, vg, vp⟩ /\ z < En.place ⟨2, vs, vg, vp⟩) from fun h => by obtain ⟨⟨_, h2, h3, h4⟩, _⟩ := h; dsimp only at h2 h3 h4; omega)
            go_wp2
            go_ret
            exact ⟨qal (by rw [HV.out]; exact (decide_eq_false fun h => absurd (HW.out.1 h.row).1 HNO.out).symm), K1.out⟩
          by_cases t5 : vp < 0
          · have HNO := qh (show ¬ (En.evOk ⟨2, vs, vg, vp⟩ /\ z < En.place ⟨2, vs, vg, vp⟩) from fun h => by obtain ⟨⟨_, h2, h3, h4⟩, _⟩ := h; dsimp only at h2 h3 h4; omega)
            go_wp2
            go_ret
            exact ⟨qal (by rw [HV.out]; exact (decide_eq_false fun h => absurd (HW.out.1 h.row).1 HNO.out).symm), K1.out⟩
          by_cases t6 : 12 <= vp
          · have HNO := qh (show ¬ (En.evOk ⟨2, vs, vg, vp⟩ /\ z < En.place ⟨2, vs, vg, vp⟩) from fun h => by obtain ⟨⟨_, h2, h3, h4⟩, _⟩ := h; dsimp only at h2 h3 h4; omega)
            go_wp2
            go_ret
            exact ⟨qal (by rw [HV.out]; exact (decide_eq_false fun h => absurd (HW.out.1 h.row).1 HNO.out).symm), K1.out⟩
          have HNX := qh (show En.Row (-1) e.evs ↔ En.Row (vs) (e.evs.drop (k + 1)) from by rw [HW.out, HPL.out]; exact ⟨fun h => h.2, fun h => ⟨⟨⟨by first | exact .inl rfl | exact .inr rfl, by dsimp only; omega, by dsimp only; omega, by dsimp only; omega⟩, by (try dsimp only); omega⟩, h⟩⟩)
          go_wp2
          go_roundw
          case rel => exact ⟨k + 1, 2, vs, vs, by omega, by go_num, rfl, rfl, .inl ⟨rfl, by omega, rfl⟩, HNX.out, KX.out⟩
          case measure => simp [intOf]; omega
        · have b1 : (vk == 1) = false := by simpa using k1
          have b2 : (vk != 2) = true := by simpa using k2
          have HNO := qh (show ¬ (En.evOk ⟨vk, vs, vg, vp⟩ /\ z < En.place ⟨vk, vs, vg, vp⟩) from fun h => by obtain ⟨⟨h1, _⟩, _⟩ := h; dsimp only at h1; omega)
          go_wp2
          go_ret
          exact ⟨qal (by rw [HV.out]; exact (decide_eq_false fun h => absurd (HW.out.1 h.row).1 HNO.out).symm), K1.out⟩
    · by_cases k1 : vk = 1
      · subst k1
        have HPL := qh (show En.place ⟨1, vs, vg, vp⟩ = 8 + vs from rfl)
        by_cases t1 : vs <= sl
        · have HNO := qh (show ¬ (En.evOk ⟨1, vs, vg, vp⟩ /\ 8 + sl < En.place ⟨1, vs, vg, vp⟩) from fun h => by obtain ⟨⟨_, h2, _⟩, h5⟩ := h; rw [HPL.out] at h5; dsimp only at h2 h5; omega)
          go_wp2
          go_ret
          exact ⟨qal (by rw [HV.out]; exact (decide_eq_false fun h => absurd (HW.out.1 h.row).1 HNO.out).symm), K1.out⟩
        by_cases t2 : 8 <= vs
        · have HNO := qh (show ¬ (En.evOk ⟨1, vs, vg, vp⟩ /\ 8 + sl < En.place ⟨1, vs, vg, vp⟩) from fun h => by obtain ⟨⟨_, h2, h3, h4⟩, _⟩ := h; dsimp only at h2 h3 h4; omega)
          go_wp2
          go_ret
          exact ⟨qal (by rw [HV.out]; exact (decide_eq_false fun h => absurd (HW.out.1 h.row).1 HNO.out).symm), K1.out⟩
        by_cases t3 : vg < 1
        · have HNO := qh (show ¬ (En.evOk ⟨1, vs, vg, vp⟩ /\ 8 + sl < En.place ⟨1, vs, vg, vp⟩) from fun h => by obtain ⟨⟨_, h2, h3, h4⟩, _⟩ := h; dsimp only at h2 h3 h4; omega)
          go_wp2
          go_ret
          exact ⟨qal (by rw [HV.out]; exact (decide_eq_false fun h => absurd (HW.out.1 h.row).1 HNO.out).symm), K1.out⟩
        by_cases t4 : 60000 < vg
        · have HNO := qh (show ¬ (En.evOk ⟨1, vs, vg, vp⟩ /\ 8 + sl < En.place ⟨1, vs, vg, vp⟩) from fun h => by obtain ⟨⟨_, h2, h3, h4⟩, _⟩ := h; dsimp only at h2 h3 h4; omega)
          go_wp2
          go_ret
          exact ⟨qal (by rw [HV.out]; exact (decide_eq_false fun h => absurd (HW.out.1 h.row).1 HNO.out).symm), K1.out⟩
        by_cases t5 : vp < 0
        · have HNO := qh (show ¬ (En.evOk ⟨1, vs, vg, vp⟩ /\ 8 + sl < En.place ⟨1, vs, vg, vp⟩) from fun h => by obtain ⟨⟨_, h2, h3, h4⟩, _⟩ := h; dsimp only at h2 h3 h4; omega)
          go_wp2
          go_ret
          exact ⟨qal (by rw [HV.out]; exact (decide_eq_false fun h => absurd (HW.out.1 h.row).1 HNO.out).symm), K1.out⟩
        by_cases t6 : 12 <= vp
        · have HNO := qh (show ¬ (En.evOk ⟨1, vs, vg, vp⟩ /\ 8 + sl < En.place ⟨1, vs, vg, vp⟩) from fun h => by obtain ⟨⟨_, h2, h3, h4⟩, _⟩ := h; dsimp only at h2 h3 h4; omega)
          go_wp2
          go_ret
          exact ⟨qal (by rw [HV.out]; exact (decide_eq_false fun h => absurd (HW.out.1 h.row).1 HNO.out).symm), K1.out⟩
        have HNX := qh (show En.Row (-1) e.evs ↔ En.Row (8 + vs) (e.evs.drop (k + 1)) from by rw [HW.out, HPL.out]; exact ⟨fun h => h.2, fun h => ⟨⟨⟨by first | exact .inl rfl | exact .inr rfl, by dsimp only; omega, by dsimp only; omega, by dsimp only; omega⟩, by (try dsimp only); omega⟩, h⟩⟩)
        go_wp2
        go_roundw
        case rel => exact ⟨k + 1, 1, vs, 8 + vs, by omega, by go_num, rfl, rfl, .inr ⟨rfl, by omega, rfl⟩, HNX.out, KX.out⟩
        case measure => simp [intOf]; omega
      · have b1 : (vk == 1) = false := by simpa using k1
        have b2 : (vk != 1) = true := by simpa using k1
        have HNO := qh (show ¬ (En.evOk ⟨vk, vs, vg, vp⟩ /\ 8 + sl < En.place ⟨vk, vs, vg, vp⟩) from fun h => by
         obtain ⟨⟨h1, h2, _⟩, h5⟩ := h
         dsimp only at h1 h2
         have : vk = 2 := by omega
         subst this
         rw [show En.place ⟨2, vs, vg, vp⟩ = vs from rfl] at h5
         omega)
        go_wp2
        go_ret
        exact ⟨qal (by rw [HV.out]; exact (decide_eq_false fun h => absurd (HW.out.1 h.row).1 HNO.out).symm), K1.out⟩
  · have hk8 : ¬ (k : Int) < n := by omega
    obtain rfl : k = n := by omega
    have hd : e.evs.drop k = [] := List.drop_eq_nil_of_le (by have := HN.out; omega)
    rw [hd] at hrow
    have HW := qh (show En.Row (-1) e.evs from hrow.2 trivial)
    clear hrow hb hat c0 c1
    go_wp2
    go_loopw [7] (fun i wq => ∃ m : Nat, m <= 8 /\ i = .int .i64 m /\ Below wr.heap.size wr wq /\ ∀ j, j < m -> En.inOk (e.inp j)) (fun i _ => 8 - (intOf i).toNat)
    case atStart => exact ⟨0, by omega, rfl, Below.refl _ _, fun j hj => absurd hj (Nat.not_lt_zero j)⟩
    case round =>
     obtain ⟨m, hm, rfl, hb2, hall⟩ := hrel
     have KM := qh (KB.out.trans (hb2.mono KB.out.size))
     have PM := qh ((P0.out.below HB.out P0.out.lt).below hb2 (P0.out.below HB.out P0.out.lt).lt)
     clear p1
     by_cases hlt8 : m < 8
     · have hm8 : (m : Int) < 8 := by omega
       have e0 := (PM.out.cell (2 + m * 3)).trans (En.qed e _ m 0 hlt8 (by omega))
       have e1 := (PM.out.cell (2 + m * 3 + 1)).trans (En.qed e _ m 1 hlt8 (by omega))
       have e2 := (PM.out.cell (2 + m * 3 + 2)).trans (En.qed e _ m 2 hlt8 (by omega))
       have hok : En.inOk (e.inp m) ↔ (-127 <= (e.inp m).x /\ -127 <= (e.inp m).y) := Iff.rfl
       have hti := hty m hlt8
       have HK := qh (show ∀ j, j < m + 1 -> j = m \/ j < m from fun j hj => by omega)
       obtain ⟨p, hp⟩ : ∃ p, p = e.inp m := ⟨_, rfl⟩
       rw [<- hp] at e0 e1 e2 hok hti
       obtain ⟨x, y, b⟩ := p
       simp only [Gm.In.cells, List.getElem?_cons_zero, List.getElem?_cons_succ, Nat.add_zero] at e0 e1 e2
       dsimp only at hok
       obtain ⟨tx, ty, tb⟩ := hti
       dsimp only at tx ty tb
       have cs := fun X => qh (qjs x y b X tx.1 ty.1)
       have HP := qh hp
       have HALL := qh hall
       have HB2 := qh hb2
       clear hp hall hb2
       by_cases hi : -127 <= x /\ -127 <= y
       · rw [decide_eq_true hi] at cs
         have hnew := qh (show ∀ j, j < m + 1 -> En.inOk (e.inp j) from fun j hj => by
          rcases HK.out j hj with rfl | h
          · rw [<- HP.out]; exact hok.2 hi
          · exact HALL.out j h)
         clear hok hi
         go_wp2_with (go_at_call 107; ((with_reducible refine ((cs _).out).mono ?_); rintro r w2 ⟨rfl, hb⟩; have K2 := qh (HB2.out.trans (hb.mono HB2.out.size)); clear hb))
         go_roundw
         case rel => exact ⟨m + 1, by omega, by go_num, K2.out, hnew.out⟩
         case measure => simp [intOf]; omega
       · rw [decide_eq_false hi] at cs
         have hno := qh (show ¬ En.Ok e from fun h => hi (by have := h.ins m hlt8; rw [<- HP.out] at this; exact this))
         clear hok hi
         go_wp2_with (go_at_call 107; ((with_reducible refine ((cs _).out).mono ?_); rintro r w2 ⟨rfl, hb⟩; have K2 := qh (KM.out.trans (hb.mono KM.out.size)); clear hb))
         go_ret
         exact ⟨qal (by rw [HV.out]; exact (decide_eq_false hno.out).symm), K2.out⟩
     · have hm8 : ¬ (m : Int) < 8 := by omega
       obtain rfl : m = 8 := by omega
       have hyes := qh (show En.Ok e from ⟨HF.out, HW.out, hall⟩)
       clear hall hb2
       go_wp2
       go_ret
       exact ⟨qal (by rw [HV.out]; exact (decide_eq_true hyes.out).symm), KM.out⟩
structure Pa (w : World) (g0 : Gm.G) (s0 : Value) (r0 : Ros.R) (e : En.E) (sl : Value) (Bn : Nat) (g : Gm.G) (s : Value) (r : Ros.R) (W : World) : Prop where
 st : Box W w.heap.size 38 (Im.cells g0 s0 r0)
 en : Box W (w.heap.size + 1) 52 (En.cells e sl)
 out : Box W (w.heap.size + 1 + 1) 38 Im.zero
 nx : Box W Bn 38 (Im.cells g s r)
 far : w.heap.size + 1 + 1 < Bn
 below : Below w.heap.size w W
section
variable {w W W' : World} {g0 g : Gm.G} {s0 s : Value} {r0 r : Ros.R} {e : En.E} {sl : Value} {Bn : Nat}
theorem Pa.call (h : Pa w g0 s0 r0 e sl Bn g s r W) (hb : Below W.heap.size W W') : Pa w g0 s0 r0 e sl Bn g s r W' :=
 ⟨h.st.below hb h.st.lt, h.en.below hb h.en.lt, h.out.below hb h.out.lt, h.nx.below hb h.nx.lt, h.far, h.below.trans (hb.mono h.below.size)⟩
theorem Pa.alloc (h : Pa w g0 s0 r0 e sl Bn g s r W) (o : Obj) : Pa w g0 s0 r0 e sl Bn g s r (W.alloc o) := h.call (qac W o)
theorem Pa.store {g' : Gm.G} {s' : Value} {r' : Ros.R} (h : Pa w g0 s0 r0 e sl Bn g s r W) : Pa w g0 s0 r0 e sl Bn g' s' r' (W.setRow Bn (Im.cells g' s' r')) :=
 ⟨h.st.qbn (by have := h.far; omega) _, h.en.qbn (by have := h.far; omega) _, h.out.qbn (by have := h.far; omega) _, h.nx.row _, h.far, Below.setRow' h.below (by have := h.far; omega) _⟩
theorem Pa.game {B' : Nat} {cs : Array Value} {c0 : Array Value} (h : Pa w g0 s0 r0 e sl Bn g s r W) (hG : Box W B' 31 c0) (hl : w.heap.size <= B') : Pa w g0 s0 r0 e sl Bn g s r (W.setRow B' cs) :=
 ⟨h.st.qbn (Box.apart h.st hG (by decide)) _, h.en.qbn (Box.apart h.en hG (by decide)) _, h.out.qbn (Box.apart h.out hG (by decide)) _, h.nx.qbn (Box.apart h.nx hG (by decide)) _, h.far, Below.setRow' h.below hl _⟩
end
theorem qjr (g : Gm.G) (A : Option Addr) (n c i : Nat) (w : World) (hg : Gm.ok g) (hd : 0 <= g.dice /\ g.dice <= 18446744073709551615) (hn : n = g.qaa.length) (hr : Lies w w.heap.size 6 A n (Gm.qad g.qaa)) (hi : i < 8) (ho : (g.ship i).on = false) :
 Calls Tryz.prog 72 #[.agg (Gm.cells g (.slice A n c)), .int .i64 i] w (Out (Gm.spawn g i) 0 w) :=
 (qjq g A n c i w hg hd hn hr hi ho).mono fun e w' h => ⟨A, c, by rw [h.1, hn]; rfl, by have := hr.call h.2; rw [hn] at this; exact this, h.2⟩
theorem qpD (x y b : Int) (w : World) : (binOp .neq 48 (.agg #[.int .i8 x, .int .i8 y, .int .u8 b]) (.agg #[.int .i8 0, .int .i8 0, .int .u8 0])).run Tryz.prog w = .ok (.bool (!En.zero ⟨x, y, b⟩)) w := by
 have h : (Op.equalIn 10000 48 (.agg #[.int .i8 x, .int .i8 y, .int .u8 b]) (.agg #[.int .i8 0, .int .i8 0, .int .u8 0])).run Tryz.prog w = .ok (En.zero ⟨x, y, b⟩) w := by
  by_cases h1 : x = 0
  · by_cases h2 : y = 0
    · by_cases h3 : b = 0
      · subst h1 h2 h3; go_simp <;> simp [En.zero]
      · have h4 : (b == 0) = false := by simpa using h3
        subst h1 h2; go_simp <;> simp [h4, h3, En.zero]
    · have h4 : (y == 0) = false := by simpa using h2
      subst h1; go_simp <;> simp [h4, h2, En.zero]
  · have h4 : (x == 0) = false := by simpa using h1
    go_simp <;> simp [h4, h1, En.zero]
 generalize #[Value.int .i8 x, .int .i8 y, .int .u8 b] = F at *
 generalize #[Value.int .i8 0, .int .i8 0, .int .u8 0] = G at *
 go_simp
open Go Go.RowKit Go.Shelf
def qpV (g' : Gm.G) (r' : Ros.R) (code : Int) (w : World) (e : Ending) (w' : World) : Prop :=
 ∃ A c, e = .returned (.tuple #[.agg (Im.cells g' (.slice A g'.qaa.length c) r'), .int .i64 code]) /\ Lies w' w'.heap.size 6 A g'.qaa.length (Gm.qad g'.qaa) /\ Typed w' 80 A /\ Below w.heap.size w w'
def qfx (s : Fd.S) (e : En.E) (w : World) (r : Ending) (w' : World) : Prop :=
 (∃ u, Fd.apply s e = some u /\ qpV u.g u.r 0 w r w') \/ (Fd.apply s e = none /\ SOut s.g s.r 1 w r w')
theorem qiw {s u : Fd.S} {e : En.E} {w w' : World} {r : Ending} (h : Fd.apply s e = some u) (hB : qfx s e w r w') : qpV u.g u.r 0 w r w' := by
 unfold qfx at hB
 rw [h] at hB
 rcases hB with ⟨v, hv, h2⟩ | ⟨hno, _⟩
 · obtain rfl : u = v := Option.some.inj hv
   exact h2
 · cases hno
theorem qgH (s : Fd.S) (e : En.E) (A A2 : Option Addr) (n c m c2 : Nat) (w : World) (hty : Gm.ty s.g) (hn63 : n <= maxLen) (hn : n = s.g.qaa.length) (hr : Lies w w.heap.size 6 A n (Gm.qad s.g.qaa)) (hm : m = e.evs.length) (hm63 : m <= maxLen) (hE : Lies w w.heap.size 4 A2 m (En.qa2 e.evs)) (hin : ∀ i, i < 8 -> Gm.tyIn (e.inp i)) (hmay : Fd.May s e) (hap : Fd.apply s e ≠ none) :
 Calls Tryz.prog 33 #[.agg (Im.cells s.g (.slice A n c) s.r), .agg (En.cells e (.slice A2 m c2))] w (qfx s e w) := by
 have B0 := qh (qiW w s.g (.slice A n c) s.r e (.slice A2 m c2))
 have L0 := qh ((hr.below B0.out.below).wider B0.out.below.size)
 have E0 := qh ((hE.below B0.out.below).wider B0.out.below.size)
 have cm := qh (qjp s.g s.r A n c _ hty hn hn63 L0.out)
 have ce := fun X hX => qh (qjt e A2 m c2 X hm hm63 hin hX)
 have hfine : Fd.Fine s := ⟨hmay.1, hty.2.1⟩
 have HF := qh hfine
 have HM := qh hmay
 have HAP := qh hap
 clear hap
 have HE := qh hE
 have HR := qh hr
 have hN := qh hn
 have hMN := qh hm
 have m63 : (m : Int) <= 9223372036854775807 := by unfold maxLen at hm63; omega
 have hfr : (e.frame != s.g.frame) = false := by simpa using hmay.2.2
 simp only [decide_eq_true hmay.2.1] at ce
 have hs0 : (Im.cells s.g (.slice A n c) s.r)[0]? = some (.int .i64 s.g.frame) := (Im.qdh _ _ _ 0 (by omega)).trans (Gm.qa1 _ _)
 have he0 := En.qa1 e (.slice A2 m c2)
 clear hmay hr hn hm hm63 hE hty hfine
 go_enter Tryz.func33, Tryz.ntmps33
 go_upto_region 4 with (first | (with_reducible refine qaz rfl rfl ?_) | ((with_reducible refine qak rfl rfl ?_); apply qaC.mk rfl; (focus first | (with_reducible exact B0.out.st) | (with_reducible exact B2.out.st)); dsimp only) | (go_at_call 31; ((with_reducible refine ((cm).out).mono ?_); rintro x w1 ⟨⟨v, rfl, hv⟩, hb⟩; obtain rfl : v = true := hv.2 HM.out.1; have B1 := qh (B0.out.call hb); have E1 := qh ((E0.out.below hb).wider hb.size); have L1 := qh (L0.out.call hb); clear hb hv)) | ((with_reducible refine qeW ?_ rfl ?_); (focus first | rfl | (simp [Region.wanted, yielded]; done)); apply qcl.mk rfl; (focus (with_reducible exact B1.out.en)); dsimp only) | (go_at_call 70; ((with_reducible refine ((ce _ E1.out).out).mono ?_); rintro x w2 ⟨rfl, hb⟩; have B2 := qh (B1.out.call hb); have k2s := B2.out.st.cell 0; have k2e := B2.out.en.cell 0; have P2 := qh (show Pa w s.g (.slice A n c) s.r e (.slice A2 m c2) w2.heap.size s.g (.slice A n c) s.r (w2.alloc (.cells (Im.cells s.g (.slice A n c) s.r) 38)) from ⟨B2.out.st.alloc _, B2.out.en.alloc _, B2.out.out.alloc _, Box.made _ _ _, B2.out.out.lt, B2.out.below.alloc B2.out.below.size _⟩); have L2 := qh ((L1.out.call hb).call (qac w2 (.cells (Im.cells s.g (.slice A n c) s.r) 38))); clear hb)) | (with_reducible refine qb8 rfl rfl rfl rfl Im.qaO rfl ?_))
 clear B0 L0 E0 cm ce B1 E1 L1 B2 k2s k2e hs0 he0 hfr
 have hn := hN.out
 subst hn
 generalize hW2 : w2.alloc (.cells (Im.cells s.g (.slice A s.g.qaa.length c) s.r) 38) = W2 at P2 L2 ⊢
 generalize w2.heap.size = Bn at P2 ⊢
 clear hW2
 go_wp2
 go_loopw [7] (fun i wr => ∃ (k : Nat) (t : Fd.S) (A' : Option Addr) (c' : Nat), k <= m /\ i = .int .i64 k /\ Fd.changes s (e.evs.take k) = some t /\ Pa w s.g (.slice A s.g.qaa.length c) s.r e (.slice A2 m c2) Bn t.g (.slice A' t.g.qaa.length c') t.r wr /\ Lies wr wr.heap.size 6 A' t.g.qaa.length (Gm.qad t.g.qaa)) (fun i _ => m - (intOf i).toNat)
 case atStart => exact ⟨0, s, A, c, Nat.zero_le _, rfl, rfl, P2.out, L2.out⟩
 case round =>
  obtain ⟨k, t, A', c', hk, rfl, hch, hB, hL⟩ := hrel
  clear P2 L2
  have en1 := (hB.en.cell 1).trans (En.qcg e (.slice A2 m c2))
  by_cases hlt : k < m
  · have hk8 : (k : Int) < m := by omega
    have hkl : k < e.evs.length := by have := hMN.out; omega
    obtain ⟨ad, rfl, hbl, e0, e1, e2, e3⟩ := qj1 (HE.out.below hB.below) hMN.out k hkl
    have hok := En.qkB e.evs (-1) HM.out.2.1.row e.evs[k] (List.getElem_mem hkl)
    have hft := (HF.out.changes hch).1
    have hgo := qh (fun hv : Fd.qcK t e.evs[k] => Fd.qh3 hkl hch hv)
    have hst := qh (fun hv : ¬ Fd.qcK t e.evs[k] => Fd.qh7 HM.out (Fd.qfR hkl hch hv))
    have cy' := fun X (hv : Fd.qcK t e.evs[k]) => qh (qju t e.evs[k] X hv)
    have HFT := qh hft
    generalize hv : e.evs[k] = v at e0 e1 e2 e3 hgo hst cy' hok
    have sz := hB.below.size
    have ltA : ad.block < wr.heap.size := by omega
    have ltP : Bn < wr.heap.size := hB.nx.lt
    have P4 := fun o => qh (hB.alloc o)
    have L4 := fun o => qh (hL.call (qac wr o))
    have V4 := qh (Box.made wr 76 #[.int .i64 v.kind, .int .i64 v.slot, .int .i64 v.gen, .int .i64 v.peer])
    have r0 := (HR.out.below hB.below)
    have L0 := qh r0
    clear r0
    by_cases hev : Fd.qcK t v
    · have cs := fun X => cy' X hev
      have HG := qh (hgo.out hev)
      clear hgo hst cy' hv hok hch hB hL hft
      rcases hev with ⟨hk1, ht, hg1⟩ | ⟨hk1, ht, hp1, hg1⟩
      · obtain ⟨j, hj8, ej, ej', hpj, ht', hp0⟩ := Fd.qie ht
        have hau : Fd.after t v = ⟨Gm.spawn t.g j, Ros.take t.r j v.peer⟩ := by unfold Fd.after; rw [if_pos hk1, ej']
        have hoff : (t.g.ship j).on = false := (HFT.out.ok.2.2 j hj8).trans (decide_eq_false (by omega))
        have cg := fun X hX => qh (qjr t.g A' t.g.qaa.length c' j X HFT.out.ok.1 HFT.out.dice rfl hX hj8 hoff)
        rw [hau] at HG
        simp only [hau] at cs
        obtain ⟨vk, vs, vg, vp⟩ := v
        dsimp only at e0 e1 e2 e3 cs hk1 ej V4 HG
        subst hk1 ej
        clear ht ht' hg1 hpj hp0 hau hoff ej'
        generalize hRR : Ros.take t.r j vp = RR at cs HG
        generalize hGG : Gm.spawn t.g j = GG at cg HG
        clear hRR hGG
        go_upto_region 12 with (first | ((with_reducible refine qd4 rfl rfl Tryz.underlying76 rfl ?_); apply qas.mk rfl; (focus (with_reducible exact V4.out)); (focus (exact qeV))) | ((with_reducible refine qcY rfl rfl ?_); apply qaC.mk rfl; (focus (with_reducible exact (P4 _).out.nx)); dsimp only) | (go_at_call 53; ((with_reducible refine ((cs _).out).mono ?_); rintro x w5 ⟨rfl, hb⟩; have P5 := qh (((P4 _).out.call hb).alloc (.cells (Ros.cells RR) 36)); have V5 := qh ((V4.out.below hb V4.out.lt).alloc (.cells (Ros.cells RR) 36)); have R5 := qh (Box.made w5 36 (Ros.cells RR)); have L5 := qh (((L4 _).out.call hb).call (qac w5 (.cells (Ros.cells RR) 36))); have P6 := qh (P5.out.store (g' := t.g) (s' := .slice A' t.g.qaa.length c') (r' := RR)); have V6 := qh (V5.out.qbn (Box.apart V5.out P5.out.nx (by decide)) (Im.cells t.g (.slice A' t.g.qaa.length c') RR)); have L6 := qh (L5.out.qa8 rfl P5.out.nx (Im.cells t.g (.slice A' t.g.qaa.length c') RR)); clear hb)) | (with_reducible refine qaU rfl rfl ?_) | ((with_reducible refine qaZ rfl rfl rfl rfl rfl ?_)) | ((with_reducible refine qav rfl rfl ?_); apply qas.mk rfl; (focus (with_reducible exact R5.out)); (focus (exact qah))) | ((with_reducible refine qdc rfl rfl ?_); apply qhn.mk rfl rfl; (focus (with_reducible exact P5.out.nx))))
        generalize hW6 : (w5.alloc (.cells (Ros.cells RR) 36)).setRow Bn (Im.cells t.g (.slice A' t.g.qaa.length c') RR) = W6 at P6 V6 L6 ⊢
        clear hW6 P5 V5 L5 R5 P4 V4 L4 cs e0 e1 e2 e3
        have P7 := qh (P6.out.alloc (.cells (Gm.cells t.g (.slice A' t.g.qaa.length c')) 31))
        have V7 := qh (V6.out.alloc (.cells (Gm.cells t.g (.slice A' t.g.qaa.length c')) 31))
        have L7 := qh (L6.out.call (qac W6 (.cells (Gm.cells t.g (.slice A' t.g.qaa.length c')) 31)))
        have G7 := qh (Box.made W6 31 (Gm.cells t.g (.slice A' t.g.qaa.length c')))
        have z7 := qh P6.out.below.size
        go_upto_region 13 with (first | ((with_reducible refine qbb rfl rfl ?_); apply qaC.mk rfl; (focus (with_reducible exact P6.out.nx)); dsimp only) | (refine qaK rfl rfl ?_) | (refine qaL rfl rfl rfl rfl rfl rfl ?_))
        try simp only [World.size_alloc]
        generalize hW7 : W6.alloc (.cells (Gm.cells t.g (.slice A' t.g.qaa.length c')) 31) = W7 at P7 V7 L7 G7 ⊢
        generalize W6.heap.size = bg at G7 z7 ⊢
        clear hW7 P6 V6 L6
        have v7 := V7.out.cell
        go_upto_region 16 with (first | ((with_reducible refine qaF rfl rfl ?_); apply qaN.mk rfl; (with_reducible exact G7.out)) | (go_at_call 72; ((with_reducible refine ((cg _ L7.out).out).mono ?_); rintro x w8 ⟨A8, c8, rfl, hL8, hb⟩; have P8 := qh (P7.out.call hb); have G8 := qh (G7.out.below hb G7.out.lt); have L8 := qh hL8; clear hb hL8)) | ((with_reducible refine qbq rfl rfl ?_); apply qbm.mk rfl rfl rfl; (with_reducible exact G8.out)))
        have P9 := qh (P8.out.game (cs := Gm.cells GG (.slice A8 GG.qaa.length c8)) G8.out z7.out)
        have G9 := qh (G8.out.row (Gm.cells GG (.slice A8 GG.qaa.length c8)))
        have L9 := qh (L8.out.qlY rfl G8.out (Gm.cells GG (.slice A8 GG.qaa.length c8)))
        try simp only [World.size_alloc]
        generalize hW9 : w8.setRow bg (Gm.cells GG (.slice A8 GG.qaa.length c8)) = W9 at P9 G9 L9 ⊢
        clear hW9 P8 G8 L8 P7 V7 L7 G7 v7 cg
        have P10 := qh (P9.out.store (g' := GG) (s' := .slice A8 GG.qaa.length c8) (r' := RR))
        have L10 := qh (L9.out.qa8 rfl P9.out.nx (Im.cells GG (.slice A8 GG.qaa.length c8) RR))
        go_wp2_with (first | ((with_reducible refine qaF rfl rfl ?_); apply qaN.mk rfl; (with_reducible exact G9.out)) | ((with_reducible refine qbU rfl rfl ?_); apply qe9.mk rfl rfl; (focus (with_reducible exact P9.out.nx)); (focus rfl)))
        go_roundw
        case rel => exact ⟨k + 1, ⟨GG, RR⟩, A8, c8, by omega, by go_num, HG.out, P10.out, L10.out⟩
        case measure => simp [intOf]; omega
      · obtain ⟨j, hj8, ej, ej', hpj, ht'⟩ := Fd.qiN ht
        have hau : Fd.after t v = ⟨Gm.remove t.g j, Ros.give t.r j⟩ := by unfold Fd.after; rw [if_neg (by omega), ej']
        have hon : (t.g.ship j).on = true := (HFT.out.ok.2.2 j hj8).trans (decide_eq_true hpj)
        have cg := fun X hX => qh (qiu t.g A' t.g.qaa.length c' j X HFT.out.ok.1 rfl hX hj8 hon)
        rw [hau] at HG
        simp only [hau] at cs
        obtain ⟨vk, vs, vg, vp⟩ := v
        dsimp only at e0 e1 e2 e3 cs hk1 ej V4 HG
        subst hk1 ej
        clear ht ht' hg1 hpj hp1 hau hon ej'
        generalize hRR : Ros.give t.r j = RR at cs HG
        generalize hGG : Gm.remove t.g j = GG at cg HG
        clear hRR hGG
        go_upto_region 12 with (first | ((with_reducible refine qd4 rfl rfl Tryz.underlying76 rfl ?_); apply qas.mk rfl; (focus (with_reducible exact V4.out)); (focus (exact qeV))) | ((with_reducible refine qcY rfl rfl ?_); apply qaC.mk rfl; (focus (with_reducible exact (P4 _).out.nx)); dsimp only) | (go_at_call 53; ((with_reducible refine ((cs _).out).mono ?_); rintro x w5 ⟨rfl, hb⟩; have P5 := qh (((P4 _).out.call hb).alloc (.cells (Ros.cells RR) 36)); have V5 := qh ((V4.out.below hb V4.out.lt).alloc (.cells (Ros.cells RR) 36)); have R5 := qh (Box.made w5 36 (Ros.cells RR)); have L5 := qh (((L4 _).out.call hb).call (qac w5 (.cells (Ros.cells RR) 36))); have P6 := qh (P5.out.store (g' := t.g) (s' := .slice A' t.g.qaa.length c') (r' := RR)); have V6 := qh (V5.out.qbn (Box.apart V5.out P5.out.nx (by decide)) (Im.cells t.g (.slice A' t.g.qaa.length c') RR)); have L6 := qh (L5.out.qa8 rfl P5.out.nx (Im.cells t.g (.slice A' t.g.qaa.length c') RR)); clear hb)) | (with_reducible refine qaU rfl rfl ?_) | ((with_reducible refine qaZ rfl rfl rfl rfl rfl ?_)) | ((with_reducible refine qav rfl rfl ?_); apply qas.mk rfl; (focus (with_reducible exact R5.out)); (focus (exact qah))) | ((with_reducible refine qdc rfl rfl ?_); apply qhn.mk rfl rfl; (focus (with_reducible exact P5.out.nx))))
        generalize hW6 : (w5.alloc (.cells (Ros.cells RR) 36)).setRow Bn (Im.cells t.g (.slice A' t.g.qaa.length c') RR) = W6 at P6 V6 L6 ⊢
        clear hW6 P5 V5 L5 R5 P4 V4 L4 cs e0 e1 e2 e3
        have P7 := qh (P6.out.alloc (.cells (Gm.cells t.g (.slice A' t.g.qaa.length c')) 31))
        have V7 := qh (V6.out.alloc (.cells (Gm.cells t.g (.slice A' t.g.qaa.length c')) 31))
        have L7 := qh (L6.out.call (qac W6 (.cells (Gm.cells t.g (.slice A' t.g.qaa.length c')) 31)))
        have G7 := qh (Box.made W6 31 (Gm.cells t.g (.slice A' t.g.qaa.length c')))
        have z7 := qh P6.out.below.size
        go_upto_region 13 with (first | ((with_reducible refine qbb rfl rfl ?_); apply qaC.mk rfl; (focus (with_reducible exact P6.out.nx)); dsimp only) | (refine qaK rfl rfl ?_) | (refine qaL rfl rfl rfl rfl rfl rfl ?_))
        try simp only [World.size_alloc]
        generalize hW7 : W6.alloc (.cells (Gm.cells t.g (.slice A' t.g.qaa.length c')) 31) = W7 at P7 V7 L7 G7 ⊢
        generalize W6.heap.size = bg at G7 z7 ⊢
        clear hW7 P6 V6 L6
        have v7 := V7.out.cell
        go_upto_region 16 with (first | ((with_reducible refine qaF rfl rfl ?_); apply qaN.mk rfl; (with_reducible exact G7.out)) | (go_at_call 71; ((with_reducible refine ((cg _ L7.out).out).mono ?_); rintro x w8 ⟨A8, c8, rfl, hL8, hb⟩; have P8 := qh (P7.out.call hb); have G8 := qh (G7.out.below hb G7.out.lt); have L8 := qh hL8; clear hb hL8)) | ((with_reducible refine qbq rfl rfl ?_); apply qbm.mk rfl rfl rfl; (with_reducible exact G8.out)))
        have P9 := qh (P8.out.game (cs := Gm.cells GG (.slice A8 GG.qaa.length c8)) G8.out z7.out)
        have G9 := qh (G8.out.row (Gm.cells GG (.slice A8 GG.qaa.length c8)))
        have L9 := qh (L8.out.qlY rfl G8.out (Gm.cells GG (.slice A8 GG.qaa.length c8)))
        try simp only [World.size_alloc]
        generalize hW9 : w8.setRow bg (Gm.cells GG (.slice A8 GG.qaa.length c8)) = W9 at P9 G9 L9 ⊢
        clear hW9 P8 G8 L8 P7 V7 L7 G7 v7 cg
        have P10 := qh (P9.out.store (g' := GG) (s' := .slice A8 GG.qaa.length c8) (r' := RR))
        have L10 := qh (L9.out.qa8 rfl P9.out.nx (Im.cells GG (.slice A8 GG.qaa.length c8) RR))
        go_wp2_with (first | ((with_reducible refine qaF rfl rfl ?_); apply qaN.mk rfl; (with_reducible exact G9.out)) | ((with_reducible refine qbU rfl rfl ?_); apply qe9.mk rfl rfl; (focus (with_reducible exact P9.out.nx)); (focus rfl)))
        go_roundw
        case rel => exact ⟨k + 1, ⟨GG, RR⟩, A8, c8, by omega, by go_num, HG.out, P10.out, L10.out⟩
        case measure => simp [intOf]; omega
    · exact absurd (hst.out hev) HAP.out
  · have hk8 : ¬ (k : Int) < m := by omega
    obtain rfl : k = m := by omega
    obtain ⟨k0, hk0⟩ : ∃ k0, k0 = k := ⟨_, rfl⟩
    rw [hMN.out, List.take_length] at hch
    have HC := qh hch
    rw [<- hk0] at hB
    have P3 := qh hB
    have L3 := qh hL
    have HT := qh (HF.out.changes hch)
    clear hch hB hL
    go_wp2
    go_loopw [13] (fun i wr => ∃ k : Nat, k <= 8 /\ i = .int .i64 k /\ Pa w s.g (.slice A s.g.qaa.length c) s.r e (.slice A2 k0 c2) Bn t.g (.slice A' t.g.qaa.length c') t.r wr /\ Lies wr wr.heap.size 6 A' t.g.qaa.length (Gm.qad t.g.qaa) /\ ∀ j, j < k -> t.r.peer j < 0 -> En.zero (e.inp j) = true) (fun i _ => 8 - (intOf i).toNat)
    case atStart => exact ⟨0, by omega, rfl, P3.out, L3.out, fun j hj => absurd hj (Nat.not_lt_zero j)⟩
    case round =>
     obtain ⟨k, hk, rfl, hB, hL, hall⟩ := hrel
     clear P3 L3 en1
     by_cases hlt : k < 8
     · have hk8 : (k : Int) < 8 := by omega
       have c0 := (hB.nx.cell (60 + k * 2)).trans (Im.qaQ t.g _ t.r k hlt)
       have i0 := (hB.en.cell (2 + k * 3)).trans (En.qed e _ k 0 hlt (by omega))
       have i1 := (hB.en.cell (2 + k * 3 + 1)).trans (En.qed e _ k 1 hlt (by omega))
       have i2 := (hB.en.cell (2 + k * 3 + 2)).trans (En.qed e _ k 2 hlt (by omega))
       have hnext := qh (fun (h : t.r.peer k < 0 -> En.zero (e.inp k) = true) => show ∀ j, j < k + 1 -> t.r.peer j < 0 -> En.zero (e.inp j) = true from fun j hj => by
        by_cases ej : j = k
        · rw [ej]; exact h
        · exact hall j (by omega))
       have hbad := qh (fun (h : t.r.peer k < 0) (h' : En.zero (e.inp k) = false) => Fd.qh8 HM.out HC.out (fun hi => by have := hi k hlt h; rw [h'] at this; cases this))
       obtain ⟨p, hp⟩ : ∃ p, p = e.inp k := ⟨_, rfl⟩
       rw [<- hp] at i0 i1 i2 hnext hbad
       obtain ⟨x, y, b⟩ := p
       simp only [Gm.In.cells, List.getElem?_cons_zero, List.getElem?_cons_succ, Nat.add_zero] at i0 i1 i2
       have hq := fun W => qpD x y b W
       generalize hzz : En.zero ⟨x, y, b⟩ = z at hq hnext hbad
       obtain ⟨pk, hpk⟩ : ∃ pk, pk = t.r.peer k := ⟨_, rfl⟩
       rw [<- hpk] at c0 hnext hbad
       have P5 := qh hB
       have L5 := qh hL
       have O5 := qh ((HR.out.below hB.below).wider hB.below.size)
       clear hp hpk hall hB hL hzz
       by_cases hp0 : pk < 0
       · cases z
         · exact absurd (hbad.out hp0 rfl) HAP.out
         · have hn := qh (hnext.out (fun _ => rfl))
           clear hnext hbad
           go_wp2
           go_roundw
           case rel => exact ⟨k + 1, by omega, by go_num, P5.out, L5.out, hn.out⟩
           case measure => simp [intOf]; omega
       · have hn := qh (hnext.out (fun h => absurd h hp0))
         clear hnext hbad
         go_wp2
         go_roundw
         case rel => exact ⟨k + 1, by omega, by go_num, P5.out, L5.out, hn.out⟩
         case measure => simp [intOf]; omega
     · have hk8 : ¬ (k : Int) < 8 := by omega
       obtain rfl : k = 8 := by omega
       have HD := qh (Fd.qh9 HM.out HC.out hall)
       have hstep := fun X hX => qh (qkL e.inp t.g A' t.g.qaa.length c' X HT.out.1.ok.1 (by have := HT.out.2; have := HM.out.2.1.frame; have := HM.out.2.2; omega) HT.out.1.dice hin rfl hX)
       have P6 := qh hB
       have L6 := qh hL
       generalize hG : Gm.step e.inp t.g = G at hstep HD
       clear hall hB hL hG
       go_upto_region 25 with (first | ((with_reducible refine qbb rfl rfl ?_); apply qaC.mk rfl; (focus (with_reducible exact P6.out.nx)); dsimp only) | ((with_reducible refine qc8 rfl rfl ?_); apply qcl.mk rfl; (focus (with_reducible exact P6.out.en)); dsimp only) | (go_at_call 73; ((with_reducible refine ((hstep _ L6.out).out).mono ?_); rintro x w7 ⟨A7, c7, rfl, hL, hT, hb⟩; have P7 := qh ((P6.out.call hb).alloc (.cells (Gm.cells G (.slice A7 G.qaa.length c7)) 31)); have L7 := qh (hL.call (qac w7 (.cells (Gm.cells G (.slice A7 G.qaa.length c7)) 31))); have T9 := qh ((hT.call (qac w7 (.cells (Gm.cells G (.slice A7 G.qaa.length c7)) 31))).row P7.out.nx (Im.cells G (.slice A7 G.qaa.length c7) t.r)); have G7 := qh (Box.made w7 31 (Gm.cells G (.slice A7 G.qaa.length c7))); have P9 := qh (P7.out.store (g' := G) (s' := .slice A7 G.qaa.length c7) (r' := t.r)); have L9 := qh (L7.out.qa8 rfl P7.out.nx (Im.cells G (.slice A7 G.qaa.length c7) t.r)); clear hb hL hT)) | (refine qaK rfl rfl ?_) | (refine qaL rfl rfl rfl rfl rfl rfl ?_))
       go_wp2_with (first | ((with_reducible refine qaF rfl rfl ?_); apply qaN.mk rfl; (with_reducible exact G7.out)) | ((with_reducible refine qbU rfl rfl ?_); apply qe9.mk rfl rfl; (focus (with_reducible exact P7.out.nx)); (focus rfl)) | ((with_reducible refine qak rfl rfl ?_); apply qaC.mk rfl; (focus (with_reducible exact P9.out.nx)); dsimp only) | ((with_reducible refine qaI rfl rfl ?_); apply qcj.mk rfl rfl; (focus (with_reducible exact P9.out.out)); (focus (exact Im.qaO)); (focus rfl)))
       refine bodyPost_ret (v := .tuple #[.agg (Im.cells G (.slice A7 G.qaa.length c7) t.r), .int .i64 0]) ?_ ?_ ?_
       · exact results_cell_tmp (p := 4) (q := 5) rfl _ _ _ _ (Im.cells G (.slice A7 G.qaa.length c7) t.r) _ rfl (Box.row P9.out.out _) Tryz.underlying38 rfl (by rw [Im.qaf]; exact qax)
       · rfl
       · exact .inl ⟨_, HD.out, A7, c7, rfl, L9.out.qcM rfl P9.out.out _, T9.out.row P9.out.out _, Below.setRow' P9.out.below (by omega) _⟩
theorem qjw (s u : Fd.S) (e : En.E) (A A2 : Option Addr) (n c m c2 : Nat) (w : World) (hty : Gm.ty s.g) (hn63 : n <= maxLen) (hn : n = s.g.qaa.length) (hr : Lies w w.heap.size 6 A n (Gm.qad s.g.qaa)) (hm : m = e.evs.length) (hm63 : m <= maxLen) (hE : Lies w w.heap.size 4 A2 m (En.qa2 e.evs)) (hin : ∀ i, i < 8 -> Gm.tyIn (e.inp i)) (h : Fd.apply s e = some u) :
 Calls Tryz.prog 33 #[.agg (Im.cells s.g (.slice A n c) s.r), .agg (En.cells e (.slice A2 m c2))] w (qpV u.g u.r 0 w) :=
 (qgH s e A A2 n c m c2 w hty hn63 hn hr hm hm63 hE hin (Fd.qcw h).1 (fun h0 => by rw [h] at h0; cases h0)).mono fun r w' hB => qiw h hB
end Go.Proofs.YtmiopphcfdlneaaGreat