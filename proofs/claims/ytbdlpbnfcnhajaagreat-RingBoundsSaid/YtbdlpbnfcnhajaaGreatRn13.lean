/-
Several texts in one: Rs Ru Rv Rr Gk Et Es Eh Ek Rn.
-/
import Derived.Test.YtbdlpbnfcnhajaaGreatRn12
set_option maxRecDepth 100000
set_option maxHeartbeats 8000000
set_option linter.unusedVariables false
set_option linter.unusedSimpArgs false
namespace Go.Proofs.YtbdlpbnfcnhajaaGreat
open Go.RowKit Go.Shelf
def SlotIs (r : Ros.R) (p v : Int) : Prop := (v = -1 ∧ (Ros.Ok r → 0 ≤ p → ∀ k, k < 8 → r.peer k ≠ p)) ∨ ∃ k : Nat, k < 8 ∧ v = k ∧ Ros.Ok r ∧ 0 ≤ p ∧ r.peer k = p
theorem refslot_any (r : Ros.R) (p : Int) (w : World) :
 Calls Tryz.prog 29 #[.agg (Ros.cells r), .int .i64 p] w fun e w' => (∃ v, e = .returned (.int .i64 v) ∧ SlotIs r p v) ∧ Below w.heap.size w w' := by
 have P0 := qh (Box.made w 38 (Ros.cells r))
 have K0 := qh (one_below w (.cells (Ros.cells r) 38))
 have cm := fun X => qh (refros_may r X)
 by_cases hp : p < 0
 · have hp' : ¬ 0 ≤ p := by omega
   have HP := qh hp'
   clear hp
   go_enter Tryz.func29, Tryz.ntmps29
   go_wp2
   go_loopw [5] (fun i wr => i = .int .i64 0 ∧ Below w.heap.size w wr) (fun i _ => 0)
   case atStart => exact ⟨rfl, K0.out⟩
   case round =>
    obtain ⟨rfl, hb⟩ := hrel
    clear P0 K0
    go_wp2
    go_ret
    exact ⟨⟨-1, rfl, .inl ⟨rfl, fun _ h => absurd h (by have := HP.out; omega)⟩⟩, hb⟩
 · have hp' : 0 ≤ p := by omega
   have HP := qh hp'
   clear hp
   by_cases hok : Ros.Ok r
   · have HOK := qh hok
     clear hok
     go_enter Tryz.func29, Tryz.ntmps29
     go_wp2
     go_loopw [5] (fun i wr => ∃ k : Nat, k ≤ 8 ∧ i = .int .i64 k ∧ Box wr w.heap.size 38 (Ros.cells r) ∧ Below w.heap.size w wr ∧ ∀ j, j < k → r.peer j ≠ p) (fun i _ => 8 - (intOf i).toNat)
     case atStart => exact ⟨0, by omega, rfl, P0.out, K0.out, fun j hj => absurd hj (Nat.not_lt_zero j)⟩
     case round =>
      obtain ⟨k, hk, rfl, hB, hb, hall⟩ := hrel
      clear P0 K0
      have HB := qh hB
      have HBB := qh hb
      have HALL := qh hall
      clear hB hb hall
      by_cases hlt : k < 8
      · have hk8 : (k : Int) < 8 := by omega
        have hcell : ∀ X, Below wr.heap.size wr X → X.cell? ⟨w.heap.size, 1 + k * 2, none⟩ = some (.int .i64 (r.peer k)) := fun X h => ((HB.out.below h HB.out.lt).cell _).trans (Ros.cells_peer r k hlt)
        obtain ⟨pk, hpk⟩ : ∃ pk, pk = r.peer k := ⟨_, rfl⟩
        rw [← hpk] at hcell
        by_cases he : pk = p
        · have HE := qh (show r.peer k = p from hpk ▸ he)
          clear hpk
          subst he
          go_wp2_with (first | ((with_reducible refine ros_load_g ?_ rfl ?_); (focus first | rfl | kernel_rfl | simp [Region.wanted, yielded]); apply LoadRow.mk rfl; (focus (with_reducible exact HB.out)); (focus (exact ros_info))) | (go_at_call 54; ((with_reducible refine ((cm _).out).mono ?_); rintro e w1 ⟨⟨v, rfl, hv⟩, hb⟩; obtain rfl : v = true := hv.2 HOK.out; have k1 := hcell _ hb; have K1 := qh (HBB.out.trans (hb.mono HBB.out.size)); clear hb hv)))
          go_ret
          exact ⟨⟨k, rfl, .inr ⟨k, hlt, rfl, HOK.out, HP.out, HE.out⟩⟩, K1.out⟩
        · have hne : (pk == p) = false := by simpa using he
          have HE := qh (show ∀ j, j < k + 1 → r.peer j ≠ p from fun j hj => by
           by_cases ej : j = k
           · rw [ej, ← hpk]; exact he
           · exact HALL.out j (by omega))
          clear hpk he
          go_wp2_with (first | ((with_reducible refine ros_load_g ?_ rfl ?_); (focus first | rfl | kernel_rfl | simp [Region.wanted, yielded]); apply LoadRow.mk rfl; (focus (with_reducible exact HB.out)); (focus (exact ros_info))) | (go_at_call 54; ((with_reducible refine ((cm _).out).mono ?_); rintro e w1 ⟨⟨v, rfl, hv⟩, hb⟩; obtain rfl : v = true := hv.2 HOK.out; have k1 := hcell _ hb; have B1 := qh (HB.out.below hb HB.out.lt); have K1 := qh (HBB.out.trans (hb.mono HBB.out.size)); clear hb hv)))
          go_roundw
          case rel => exact ⟨k + 1, by omega, by go_num, B1.out, K1.out, HE.out⟩
          case measure => simp [intOf]; omega
      · have hk8 : ¬ (k : Int) < 8 := by omega
        obtain rfl : k = 8 := by omega
        go_wp2
        go_ret
        exact ⟨⟨-1, rfl, .inl ⟨rfl, fun _ _ => HALL.out⟩⟩, HBB.out⟩
   · have HOK := qh hok
     clear hok
     go_enter Tryz.func29, Tryz.ntmps29
     go_wp2
     go_loopw [5] (fun i wr => i = .int .i64 0 ∧ Box wr w.heap.size 38 (Ros.cells r) ∧ Below w.heap.size w wr) (fun i _ => 0)
     case atStart => exact ⟨rfl, P0.out, K0.out⟩
     case round =>
      obtain ⟨rfl, hB, hb⟩ := hrel
      have HB := qh hB
      have HBB := qh hb
      clear P0 K0 hB hb
      go_wp2_with (first | ((with_reducible refine ros_load_g ?_ rfl ?_); (focus first | rfl | kernel_rfl | simp [Region.wanted, yielded]); apply LoadRow.mk rfl; (focus (with_reducible exact HB.out)); (focus (exact ros_info))) | (go_at_call 54; ((with_reducible refine ((cm _).out).mono ?_); rintro e w1 ⟨⟨v, rfl, hv⟩, hb⟩; obtain rfl : v = false := (by cases v <;> first | rfl | exact absurd (hv.1 rfl) HOK.out); have K1 := qh (HBB.out.trans (hb.mono HBB.out.size)); clear hb hv)))
      go_ret
      exact ⟨⟨-1, rfl, .inl ⟨rfl, fun h => absurd h HOK.out⟩⟩, K1.out⟩
theorem slot_of {r : Ros.R} {p v : Int} (hr : Ros.Ok r) (h0 : 0 ≤ p) (h1 : p < 12) (h : SlotIs r p v) : v = Ros.of r p := by
 rcases Ros.of_cases hr h0 h1 with ⟨e, hn⟩ | ⟨k, hk, e, hp⟩
 · rcases h with ⟨e', _⟩ | ⟨k, hk, _, _, _, hp⟩
   · rw [e, e']
   · exact absurd hp (hn k hk)
 · rcases h with ⟨_, hn⟩ | ⟨j, hj, e', _, _, hp'⟩
   · exact absurd hp (hn hr h0 k hk)
   · rw [e, e']
     have := hr.one hj hk (hp'.trans hp.symm) (by omega)
     rw [this]
theorem seat_info2 : (Tryz.prog.info? 35).map (·.size) = some 2 := by kernel_rfl
theorem seat_splice (r : Ros.R) (k : Nat) (hk : k < 8) (p g : Int) : splice (Ros.cells r) (1 + k * 2) [.int .i64 p, .int .i64 g] = Ros.cells ⟨r.version, Ros.upd r.peer k p, Ros.upd r.gen k g⟩ := by
 match k, hk with
 | 0, _ | 1, _ | 2, _ | 3, _ | 4, _ | 5, _ | 6, _ | 7, _ => rfl
section
variable {ops : Array Oper} {rest : List Oper} {o : Oper} {a : Act} {w : World} {Q : Exit → Act → World → Prop} {x y : Operand} {dst : Option Tmp} {p v : Value}
def StoreSeat (ops : Array Oper) (Q : Exit → Act → World → Prop) (rest : List Oper) (dst : Option Tmp) (p v : Value) (a : Act) (w : World) : Prop :=
 ∃ (B k : Nat) (r : Ros.R) (q g : Int), p = .pointer (some ⟨B, 1 + k * 2, none⟩) ∧ v = .agg #[.int .i64 q, .int .i64 g] ∧ k < 8 ∧ Box w B 38 (Ros.cells r) ∧ wpList Tryz.prog ops Q rest (a.put dst undef) (w.setRow B (Ros.cells ⟨r.version, Ros.upd r.peer k q, Ros.upd r.gen k g⟩))
theorem StoreSeat.mk {B k : Nat} {r : Ros.R} {q g : Int} (hp : p = .pointer (some ⟨B, 1 + k * 2, none⟩)) (hv : v = .agg #[.int .i64 q, .int .i64 g]) (hk : k < 8) (hB : Box w B 38 (Ros.cells r)) (h : wpList Tryz.prog ops Q rest (a.put dst undef) (w.setRow B (Ros.cells ⟨r.version, Ros.upd r.peer k q, Ros.upd r.gen k g⟩))) : StoreSeat ops Q rest dst p v a w := ⟨B, k, r, q, g, hp, hv, hk, hB, h⟩
theorem ros_store_seat (hgd : o.guard = none) (ho : o.op = .store 35 x y) (h : StoreSeat ops Q rest o.dst (a.eval x) (a.eval y) a w) : wpList Tryz.prog ops Q (o :: rest) a w := by
 obtain ⟨B, k, r, q, g, hx, hy, hk, hB, h⟩ := h
 refine wpList_store_mid hgd 35 x y ho B (1 + k * 2) #[.int .i64 q, .int .i64 g] hx hy (hB.there _ _ (by rw [Ros.cells_size]; show 1 + k * 2 + 2 ≤ 17; omega)) seat_info2 (by simp [Value.oneCell']) ?_
 rw [setCells_row B 38 _ (1 + k * 2) (Ros.cells r) w hB.is (by rw [Ros.cells_size]; show 1 + k * 2 + 2 ≤ 17; omega), seat_splice r k hk q g]
 exact h
end
theorem refgive_no (r : Ros.R) (s : Int) (w : World) (hno : ¬ Ros.MayGive r s) :
 Calls Tryz.prog 56 #[.agg (Ros.cells r), .int .i64 s] w fun e w' => e = .returned (.tuple #[.agg (Ros.cells r), .int .i64 1]) ∧ Below w.heap.size w w' := by
 have P0 := qh ((Box.made w 38 (Ros.cells r)).alloc (.cells (Ros.cells rosZero) 38))
 have Z0 := qh (Box.made_at (n := w.heap.size + 1) (w.alloc (.cells (Ros.cells r) 38)) 38 (Ros.cells rosZero) (by simp))
 have K0 := qh (two_below' w (.cells (Ros.cells r) 38) (.cells (Ros.cells rosZero) 38))
 have cm := fun X => qh (refros_may r X)
 have r0 := Ros.cells_0 r
 by_cases hok : Ros.Ok r
 · have HOK := qh hok
   by_cases h1 : s < 0
   · clear hok hno
     go_enter Tryz.func56, Tryz.ntmps56
     go_wp2_with (first | (with_reducible refine ros_alloc rfl rfl ?_) | ((with_reducible refine ros_load rfl rfl ?_); apply LoadRow.mk rfl; (focus first | (with_reducible exact P0.out) | (with_reducible exact P2.out) | (with_reducible exact P1.out) | (with_reducible exact P4.out)); (focus (exact ros_info))) | ((with_reducible refine ros_store rfl rfl ?_); apply StoreRow.mk rfl rfl; (focus first | (with_reducible exact Z4.out) | (with_reducible exact Z2.out) | (with_reducible exact Z1.out)); (focus (exact ros_info)); (focus rfl); (focus (exact ros_one _))) | (go_at_call 54; ((with_reducible refine ((cm _).out).mono ?_); rintro e w1 ⟨⟨v, rfl, hv⟩, hb⟩; obtain rfl : v = true := hv.2 HOK.out; have P1 := qh (P0.out.below hb P0.out.lt); have Z1 := qh (Z0.out.below hb Z0.out.lt); have K1 := qh (K0.out.trans (hb.mono K0.out.size)); have k1 := P1.out.cell; have f1 := P1.out.free; clear hb hv)))
     refine bodyPost_ret (v := .tuple #[.agg (Ros.cells r), .int .i64 1]) ?_ ?_ ?_
     · exact results_cell_tmp (p := 4) (q := 5) rfl _ _ _ _ (Ros.cells r) _ rfl (Box.row Z1.out _) Tryz.underlying38 rfl ros_info
     · rfl
     · exact ⟨rfl, Below.setRow' K1.out (by omega) _⟩
   by_cases h2 : 8 ≤ s
   · have h1' : ¬ s < 0 := h1
     clear hok hno
     go_enter Tryz.func56, Tryz.ntmps56
     go_wp2_with (first | (with_reducible refine ros_alloc rfl rfl ?_) | ((with_reducible refine ros_load rfl rfl ?_); apply LoadRow.mk rfl; (focus first | (with_reducible exact P0.out) | (with_reducible exact P2.out) | (with_reducible exact P1.out) | (with_reducible exact P4.out)); (focus (exact ros_info))) | ((with_reducible refine ros_store rfl rfl ?_); apply StoreRow.mk rfl rfl; (focus first | (with_reducible exact Z4.out) | (with_reducible exact Z2.out) | (with_reducible exact Z1.out)); (focus (exact ros_info)); (focus rfl); (focus (exact ros_one _))) | (go_at_call 54; ((with_reducible refine ((cm _).out).mono ?_); rintro e w1 ⟨⟨v, rfl, hv⟩, hb⟩; obtain rfl : v = true := hv.2 HOK.out; have P1 := qh (P0.out.below hb P0.out.lt); have Z1 := qh (Z0.out.below hb Z0.out.lt); have K1 := qh (K0.out.trans (hb.mono K0.out.size)); have k1 := P1.out.cell; have f1 := P1.out.free; clear hb hv)))
     refine bodyPost_ret (v := .tuple #[.agg (Ros.cells r), .int .i64 1]) ?_ ?_ ?_
     · exact results_cell_tmp (p := 4) (q := 5) rfl _ _ _ _ (Ros.cells r) _ rfl (Box.row Z1.out _) Tryz.underlying38 rfl ros_info
     · rfl
     · exact ⟨rfl, Below.setRow' K1.out (by omega) _⟩
   obtain ⟨k, rfl⟩ : ∃ k : Nat, s = k := ⟨s.toNat, by omega⟩
   have hk8 : k < 8 := by omega
   have hk8' : (k : Int) < 8 := by omega
   have q1 := Ros.cells_peer r k hk8
   have hseat := hok.seat k hk8
   by_cases h3 : r.peer k < 0
   · clear hok hno hseat
     obtain ⟨pk, hpk⟩ : ∃ pk, pk = r.peer k := ⟨_, rfl⟩
     rw [← hpk] at q1 h3
     clear hpk
     go_enter Tryz.func56, Tryz.ntmps56
     go_wp2_with (first | (with_reducible refine ros_alloc rfl rfl ?_) | ((with_reducible refine ros_load rfl rfl ?_); apply LoadRow.mk rfl; (focus first | (with_reducible exact P0.out) | (with_reducible exact P2.out) | (with_reducible exact P1.out) | (with_reducible exact P4.out)); (focus (exact ros_info))) | ((with_reducible refine ros_store rfl rfl ?_); apply StoreRow.mk rfl rfl; (focus first | (with_reducible exact Z4.out) | (with_reducible exact Z2.out) | (with_reducible exact Z1.out)); (focus (exact ros_info)); (focus rfl); (focus (exact ros_one _))) | (go_at_call 54; ((with_reducible refine ((cm _).out).mono ?_); rintro e w1 ⟨⟨v, rfl, hv⟩, hb⟩; obtain rfl : v = true := hv.2 HOK.out; have P1 := qh (P0.out.below hb P0.out.lt); have Z1 := qh (Z0.out.below hb Z0.out.lt); have K1 := qh (K0.out.trans (hb.mono K0.out.size)); have k1 := P1.out.cell; have f1 := P1.out.free; clear hb hv)))
     refine bodyPost_ret (v := .tuple #[.agg (Ros.cells r), .int .i64 1]) ?_ ?_ ?_
     · exact results_cell_tmp (p := 4) (q := 5) rfl _ _ _ _ (Ros.cells r) _ rfl (Box.row Z1.out _) Tryz.underlying38 rfl ros_info
     · rfl
     · exact ⟨rfl, Below.setRow' K1.out (by omega) _⟩
   by_cases h4 : 1073741824 ≤ r.version
   · obtain ⟨pk, hpk⟩ : ∃ pk, pk = r.peer k := ⟨_, rfl⟩
     obtain ⟨ve, hve⟩ : ∃ ve, ve = r.version := ⟨_, rfl⟩
     rw [← hpk] at q1 h3
     rw [← hve] at r0 h4
     clear hok hno hseat hpk hve
     go_enter Tryz.func56, Tryz.ntmps56
     go_wp2_with (first | (with_reducible refine ros_alloc rfl rfl ?_) | ((with_reducible refine ros_load rfl rfl ?_); apply LoadRow.mk rfl; (focus first | (with_reducible exact P0.out) | (with_reducible exact P2.out) | (with_reducible exact P1.out) | (with_reducible exact P4.out)); (focus (exact ros_info))) | ((with_reducible refine ros_store rfl rfl ?_); apply StoreRow.mk rfl rfl; (focus first | (with_reducible exact Z4.out) | (with_reducible exact Z2.out) | (with_reducible exact Z1.out)); (focus (exact ros_info)); (focus rfl); (focus (exact ros_one _))) | (go_at_call 54; ((with_reducible refine ((cm _).out).mono ?_); rintro e w1 ⟨⟨v, rfl, hv⟩, hb⟩; obtain rfl : v = true := hv.2 HOK.out; have P1 := qh (P0.out.below hb P0.out.lt); have Z1 := qh (Z0.out.below hb Z0.out.lt); have K1 := qh (K0.out.trans (hb.mono K0.out.size)); have k1 := P1.out.cell; have f1 := P1.out.free; clear hb hv)))
     refine bodyPost_ret (v := .tuple #[.agg (Ros.cells r), .int .i64 1]) ?_ ?_ ?_
     · exact results_cell_tmp (p := 4) (q := 5) rfl _ _ _ _ (Ros.cells r) _ rfl (Box.row Z1.out _) Tryz.underlying38 rfl ros_info
     · rfl
     · exact ⟨rfl, Below.setRow' K1.out (by omega) _⟩
   exact absurd ⟨⟨⟨hok, by omega⟩, by omega, by omega⟩, by show r.peer ((k : Int)).toNat ≠ -1; rw [Int.toNat_natCast]; omega⟩ hno
 · have HOK := qh hok
   clear hok hno
   go_enter Tryz.func56, Tryz.ntmps56
   go_wp2_with (first | (with_reducible refine ros_alloc rfl rfl ?_) | ((with_reducible refine ros_load rfl rfl ?_); apply LoadRow.mk rfl; (focus first | (with_reducible exact P0.out) | (with_reducible exact P2.out) | (with_reducible exact P1.out) | (with_reducible exact P4.out)); (focus (exact ros_info))) | ((with_reducible refine ros_store rfl rfl ?_); apply StoreRow.mk rfl rfl; (focus first | (with_reducible exact Z4.out) | (with_reducible exact Z2.out) | (with_reducible exact Z1.out)); (focus (exact ros_info)); (focus rfl); (focus (exact ros_one _))) | (go_at_call 54; ((with_reducible refine ((cm _).out).mono ?_); rintro e w1 ⟨⟨v, rfl, hv⟩, hb⟩; obtain rfl : v = false := (by cases v <;> first | rfl | exact absurd (hv.1 rfl) HOK.out); have P1 := qh (P0.out.below hb P0.out.lt); have Z1 := qh (Z0.out.below hb Z0.out.lt); have K1 := qh (K0.out.trans (hb.mono K0.out.size)); have k1 := P1.out.cell; have f1 := P1.out.free; clear hb hv)))
   refine bodyPost_ret (v := .tuple #[.agg (Ros.cells r), .int .i64 1]) ?_ ?_ ?_
   · exact results_cell_tmp (p := 4) (q := 5) rfl _ _ _ _ (Ros.cells r) _ rfl (Box.row Z1.out _) Tryz.underlying38 rfl ros_info
   · rfl
   · exact ⟨rfl, Below.setRow' K1.out (by omega) _⟩
theorem refgive_yes (r : Ros.R) (k : Nat) (w : World) (hy : Ros.MayGive r k) :
 Calls Tryz.prog 56 #[.agg (Ros.cells r), .int .i64 (k : Int)] w fun e w' => e = .returned (.tuple #[.agg (Ros.cells (Ros.give r k)), .int .i64 0]) ∧ Below w.heap.size w w' := by
 have P0 := qh ((Box.made w 38 (Ros.cells r)).alloc (.cells (Ros.cells rosZero) 38))
 have Z0 := qh (Box.made_at (n := w.heap.size + 1) (w.alloc (.cells (Ros.cells r) 38)) 38 (Ros.cells rosZero) (by simp))
 have K0 := qh (two_below' w (.cells (Ros.cells r) 38) (.cells (Ros.cells rosZero) 38))
 have cm := fun X => qh (refros_may r X)
 have r0 := Ros.cells_0 r
 obtain ⟨⟨⟨hok, hv⟩, h0, h8⟩, hp⟩ := hy
 have HOK := qh hok
 have hk8 : k < 8 := by omega
 have hp' : ¬ r.peer k < 0 := by have := hok.seat k hk8; rcases this.2 with h | h; exact absurd h (by simpa using hp); omega
 have h0' : ¬ (k : Int) < 0 := by omega
 have hv' : ¬ 1073741824 ≤ r.version := by omega
 have hwv := IntWalk.i64_in (n := r.version + 1) (by have := hok.1; omega)
 have HK := qh hk8
 have q1 := Ros.cells_peer r k hk8
 obtain ⟨pk, hpk⟩ : ∃ pk, pk = r.peer k := ⟨_, rfl⟩
 rw [← hpk] at q1 hp'
 clear hok hp hpk hv
 go_enter Tryz.func56, Tryz.ntmps56
 go_upto_region 3 with (first | (with_reducible refine ros_alloc rfl rfl ?_) | ((with_reducible refine ros_load rfl rfl ?_); apply LoadRow.mk rfl; (focus first | (with_reducible exact P0.out) | (with_reducible exact P2.out) | (with_reducible exact P1.out) | (with_reducible exact P4.out)); (focus (exact ros_info))) | (go_at_call 54; ((with_reducible refine ((cm _).out).mono ?_); rintro e w1 ⟨⟨v, rfl, hv⟩, hb⟩; obtain rfl : v = true := hv.2 HOK.out; have P1 := qh (P0.out.below hb P0.out.lt); have Z1 := qh (Z0.out.below hb Z0.out.lt); have K1 := qh (K0.out.trans (hb.mono K0.out.size)); have k1 := P1.out.cell; have f1 := P1.out.free; clear hb hv)))
 have hg : Hid ((⟨r.version, Ros.upd r.peer k (-1), r.gen⟩ : Ros.R) = ⟨r.version, Ros.upd r.peer k (-1), r.gen⟩) := qh rfl
 have Q2 := P1.out.rosp HK.out (-1)
 have c2 := Q2.cell 0
 have d2 := Q2.free 0
 rw [Ros.cells_0] at c2
 dsimp only at c2
 have P4 := qh (show Box ((w1.setCell ⟨w.heap.size, 1 + k * 2, none⟩ (.int .i64 (-1))).setCell ⟨w.heap.size, 0, none⟩ (.int .i64 (r.version + 1))) w.heap.size 38 (Ros.cells (Ros.give r k)) from Q2.rosv (r.version + 1))
 have Z4 := qh ((Z1.out.far (p := ⟨w.heap.size, 1 + k * 2, none⟩) (show w.heap.size + 1 ≠ w.heap.size by omega) (.int .i64 (-1))).far (p := ⟨w.heap.size, 0, none⟩) (show w.heap.size + 1 ≠ w.heap.size by omega) (.int .i64 (r.version + 1)))
 have K4 := qh ((K1.out.setCell (p := ⟨w.heap.size, 1 + k * 2, none⟩) (Nat.le_refl _) (.int .i64 (-1))).setCell (p := ⟨w.heap.size, 0, none⟩) (Nat.le_refl _) (.int .i64 (r.version + 1)))
 clear Q2 hg
 go_wp2_with (first | ((with_reducible refine ros_load rfl rfl ?_); apply LoadRow.mk rfl; (focus first | (with_reducible exact P0.out) | (with_reducible exact P2.out) | (with_reducible exact P1.out) | (with_reducible exact P4.out)); (focus (exact ros_info))) | ((with_reducible refine ros_store rfl rfl ?_); apply StoreRow.mk rfl rfl; (focus first | (with_reducible exact Z4.out) | (with_reducible exact Z2.out) | (with_reducible exact Z1.out)); (focus (exact ros_info)); (focus rfl); (focus (exact ros_one _))))
 refine bodyPost_ret (v := .tuple #[.agg (Ros.cells (Ros.give r k)), .int .i64 0]) ?_ ?_ ?_
 · exact results_cell_tmp (p := 4) (q := 5) rfl _ _ _ _ (Ros.cells (Ros.give r k)) _ rfl (Box.row Z4.out _) Tryz.underlying38 rfl ros_info
 · rfl
 · exact ⟨rfl, Below.setRow' K4.out (by omega) _⟩
theorem reftake_no (r : Ros.R) (s p : Int) (w : World) (hno : ¬ Ros.MayTake r s p) :
 Calls Tryz.prog 55 #[.agg (Ros.cells r), .int .i64 s, .int .i64 p] w fun e w' => e = .returned (.tuple #[.agg (Ros.cells r), .int .i64 1]) ∧ Below w.heap.size w w' := by
 have P0 := qh ((Box.made w 38 (Ros.cells r)).alloc (.cells (Ros.cells rosZero) 38))
 have Z0 := qh (Box.made_at (n := w.heap.size + 1) (w.alloc (.cells (Ros.cells r) 38)) 38 (Ros.cells rosZero) (by simp))
 have K0 := qh (two_below' w (.cells (Ros.cells r) 38) (.cells (Ros.cells rosZero) 38))
 have cm := fun X => qh (refros_may r X)
 have r0 := Ros.cells_0 r
 have cl := fun X => qh (refslot_any r p X)
 by_cases hok : Ros.Ok r
 · have HOK := qh hok
   by_cases h1 : s < 0
   · clear hok hno
     go_enter Tryz.func55, Tryz.ntmps55
     go_wp2_with (first | (with_reducible refine ros_alloc rfl rfl ?_) | ((with_reducible refine ros_load rfl rfl ?_); apply LoadRow.mk rfl; (focus first | (with_reducible exact P0.out) | (with_reducible exact P2.out) | (with_reducible exact P1.out) | (with_reducible exact P4.out)); (focus (exact ros_info))) | ((with_reducible refine ros_store rfl rfl ?_); apply StoreRow.mk rfl rfl; (focus first | (with_reducible exact Z4.out) | (with_reducible exact Z2.out) | (with_reducible exact Z1.out)); (focus (exact ros_info)); (focus rfl); (focus (exact ros_one _))) | (go_at_call 54; ((with_reducible refine ((cm _).out).mono ?_); rintro e w1 ⟨⟨v, rfl, hv⟩, hb⟩; obtain rfl : v = true := hv.2 HOK.out; have P1 := qh (P0.out.below hb P0.out.lt); have Z1 := qh (Z0.out.below hb Z0.out.lt); have K1 := qh (K0.out.trans (hb.mono K0.out.size)); have k1 := P1.out.cell; have f1 := P1.out.free; clear hb hv)))
     refine bodyPost_ret (v := .tuple #[.agg (Ros.cells r), .int .i64 1]) ?_ ?_ ?_
     · exact results_cell_tmp (p := 6) (q := 7) rfl _ _ _ _ (Ros.cells r) _ rfl (Box.row Z1.out _) Tryz.underlying38 rfl ros_info
     · rfl
     · exact ⟨rfl, Below.setRow' K1.out (by omega) _⟩
   by_cases h2 : 8 ≤ s
   · have h1' : ¬ s < 0 := h1
     clear hok hno
     go_enter Tryz.func55, Tryz.ntmps55
     go_wp2_with (first | (with_reducible refine ros_alloc rfl rfl ?_) | ((with_reducible refine ros_load rfl rfl ?_); apply LoadRow.mk rfl; (focus first | (with_reducible exact P0.out) | (with_reducible exact P2.out) | (with_reducible exact P1.out) | (with_reducible exact P4.out)); (focus (exact ros_info))) | ((with_reducible refine ros_store rfl rfl ?_); apply StoreRow.mk rfl rfl; (focus first | (with_reducible exact Z4.out) | (with_reducible exact Z2.out) | (with_reducible exact Z1.out)); (focus (exact ros_info)); (focus rfl); (focus (exact ros_one _))) | (go_at_call 54; ((with_reducible refine ((cm _).out).mono ?_); rintro e w1 ⟨⟨v, rfl, hv⟩, hb⟩; obtain rfl : v = true := hv.2 HOK.out; have P1 := qh (P0.out.below hb P0.out.lt); have Z1 := qh (Z0.out.below hb Z0.out.lt); have K1 := qh (K0.out.trans (hb.mono K0.out.size)); have k1 := P1.out.cell; have f1 := P1.out.free; clear hb hv)))
     refine bodyPost_ret (v := .tuple #[.agg (Ros.cells r), .int .i64 1]) ?_ ?_ ?_
     · exact results_cell_tmp (p := 6) (q := 7) rfl _ _ _ _ (Ros.cells r) _ rfl (Box.row Z1.out _) Tryz.underlying38 rfl ros_info
     · rfl
     · exact ⟨rfl, Below.setRow' K1.out (by omega) _⟩
   obtain ⟨k, rfl⟩ : ∃ k : Nat, s = k := ⟨s.toNat, by omega⟩
   have hk8 : k < 8 := by omega
   have hk8' : (k : Int) < 8 := by omega
   have q1 := Ros.cells_peer r k hk8
   have q2 := Ros.cells_gen r k hk8
   have hseat := hok.seat k hk8
   have hno' := qh (show (0 ≤ p ∧ p < 12) → Ros.of r p = -1 → r.peer k = -1 → r.gen k ≠ 60000 → r.version < 1073741824 → False from fun a b c d e => hno ⟨⟨⟨⟨hok, e⟩, by omega, by omega⟩, a, b⟩, by show r.peer ((k : Int)).toNat = -1; rw [Int.toNat_natCast]; exact c, by show r.gen ((k : Int)).toNat ≠ 60000; rw [Int.toNat_natCast]; exact d⟩)
   have hp1 : r.peer k < 0 → r.peer k = -1 := fun h => by rcases hseat.2 with h' | h'; exact h'; omega
   have hg1 : ¬ 60000 ≤ r.gen k → r.gen k ≠ 60000 := fun h => by omega
   clear hno hseat hok
   obtain ⟨pk, hpk⟩ : ∃ pk, pk = r.peer k := ⟨_, rfl⟩
   obtain ⟨gk, hgk⟩ : ∃ gk, gk = r.gen k := ⟨_, rfl⟩
   obtain ⟨ve, hve⟩ : ∃ ve, ve = r.version := ⟨_, rfl⟩
   rw [← hpk] at q1 hp1 hno'
   rw [← hgk] at q2 hg1 hno'
   rw [← hve] at r0 hno'
   clear hpk hgk hve
   have h1' : ¬ (k : Int) < 0 := by omega
   by_cases h3 : 0 ≤ pk
   · clear hno' hp1 hg1
     go_enter Tryz.func55, Tryz.ntmps55
     go_wp2_with (first | (with_reducible refine ros_alloc rfl rfl ?_) | ((with_reducible refine ros_load rfl rfl ?_); apply LoadRow.mk rfl; (focus first | (with_reducible exact P0.out) | (with_reducible exact P2.out) | (with_reducible exact P1.out) | (with_reducible exact P4.out)); (focus (exact ros_info))) | ((with_reducible refine ros_store rfl rfl ?_); apply StoreRow.mk rfl rfl; (focus first | (with_reducible exact Z4.out) | (with_reducible exact Z2.out) | (with_reducible exact Z1.out)); (focus (exact ros_info)); (focus rfl); (focus (exact ros_one _))) | (go_at_call 54; ((with_reducible refine ((cm _).out).mono ?_); rintro e w1 ⟨⟨v, rfl, hv⟩, hb⟩; obtain rfl : v = true := hv.2 HOK.out; have P1 := qh (P0.out.below hb P0.out.lt); have Z1 := qh (Z0.out.below hb Z0.out.lt); have K1 := qh (K0.out.trans (hb.mono K0.out.size)); have k1 := P1.out.cell; have f1 := P1.out.free; clear hb hv)))
     refine bodyPost_ret (v := .tuple #[.agg (Ros.cells r), .int .i64 1]) ?_ ?_ ?_
     · exact results_cell_tmp (p := 6) (q := 7) rfl _ _ _ _ (Ros.cells r) _ rfl (Box.row Z1.out _) Tryz.underlying38 rfl ros_info
     · rfl
     · exact ⟨rfl, Below.setRow' K1.out (by omega) _⟩
   by_cases h4 : p < 0
   · clear hno' hp1 hg1
     go_enter Tryz.func55, Tryz.ntmps55
     go_wp2_with (first | (with_reducible refine ros_alloc rfl rfl ?_) | ((with_reducible refine ros_load rfl rfl ?_); apply LoadRow.mk rfl; (focus first | (with_reducible exact P0.out) | (with_reducible exact P2.out) | (with_reducible exact P1.out) | (with_reducible exact P4.out)); (focus (exact ros_info))) | ((with_reducible refine ros_store rfl rfl ?_); apply StoreRow.mk rfl rfl; (focus first | (with_reducible exact Z4.out) | (with_reducible exact Z2.out) | (with_reducible exact Z1.out)); (focus (exact ros_info)); (focus rfl); (focus (exact ros_one _))) | (go_at_call 54; ((with_reducible refine ((cm _).out).mono ?_); rintro e w1 ⟨⟨v, rfl, hv⟩, hb⟩; obtain rfl : v = true := hv.2 HOK.out; have P1 := qh (P0.out.below hb P0.out.lt); have Z1 := qh (Z0.out.below hb Z0.out.lt); have K1 := qh (K0.out.trans (hb.mono K0.out.size)); have k1 := P1.out.cell; have f1 := P1.out.free; clear hb hv)))
     refine bodyPost_ret (v := .tuple #[.agg (Ros.cells r), .int .i64 1]) ?_ ?_ ?_
     · exact results_cell_tmp (p := 6) (q := 7) rfl _ _ _ _ (Ros.cells r) _ rfl (Box.row Z1.out _) Tryz.underlying38 rfl ros_info
     · rfl
     · exact ⟨rfl, Below.setRow' K1.out (by omega) _⟩
   by_cases h5 : 12 ≤ p
   · clear hno' hp1 hg1
     go_enter Tryz.func55, Tryz.ntmps55
     go_wp2_with (first | (with_reducible refine ros_alloc rfl rfl ?_) | ((with_reducible refine ros_load rfl rfl ?_); apply LoadRow.mk rfl; (focus first | (with_reducible exact P0.out) | (with_reducible exact P2.out) | (with_reducible exact P1.out) | (with_reducible exact P4.out)); (focus (exact ros_info))) | ((with_reducible refine ros_store rfl rfl ?_); apply StoreRow.mk rfl rfl; (focus first | (with_reducible exact Z4.out) | (with_reducible exact Z2.out) | (with_reducible exact Z1.out)); (focus (exact ros_info)); (focus rfl); (focus (exact ros_one _))) | (go_at_call 54; ((with_reducible refine ((cm _).out).mono ?_); rintro e w1 ⟨⟨v, rfl, hv⟩, hb⟩; obtain rfl : v = true := hv.2 HOK.out; have P1 := qh (P0.out.below hb P0.out.lt); have Z1 := qh (Z0.out.below hb Z0.out.lt); have K1 := qh (K0.out.trans (hb.mono K0.out.size)); have k1 := P1.out.cell; have f1 := P1.out.free; clear hb hv)))
     refine bodyPost_ret (v := .tuple #[.agg (Ros.cells r), .int .i64 1]) ?_ ?_ ?_
     · exact results_cell_tmp (p := 6) (q := 7) rfl _ _ _ _ (Ros.cells r) _ rfl (Box.row Z1.out _) Tryz.underlying38 rfl ros_info
     · rfl
     · exact ⟨rfl, Below.setRow' K1.out (by omega) _⟩
   have HPP := qh (show 0 ≤ p ∧ p < 12 by omega)
   have hp12 : p < 12 := by omega
   by_cases h6 : Ros.of r p = -1
   · have H6 := qh h6
     have h7c : 60000 ≤ gk ∨ 1073741824 ≤ ve := by
      by_cases a : 60000 ≤ gk
      · exact .inl a
      · by_cases b : 1073741824 ≤ ve
        · exact .inr b
        · exact absurd (hno'.out HPP.out h6 (hp1 (by omega)) (hg1 a) (by omega)) id
     clear hno' hp1 hg1 h6
     by_cases h7 : 60000 ≤ gk
     · clear h7c
       go_enter Tryz.func55, Tryz.ntmps55
       go_wp2_with (first | (with_reducible refine ros_alloc rfl rfl ?_) | ((with_reducible refine ros_load_g ?_ rfl ?_); (focus first | (simp [Region.wanted, yielded, h1', h2, h3, h4, h5]; done) | (simp [Region.wanted, yielded]; done)); apply LoadRow.mk rfl; (focus (with_reducible exact P1.out)); (focus (exact ros_info))) | ((with_reducible refine ros_load rfl rfl ?_); apply LoadRow.mk rfl; (focus first | (with_reducible exact P0.out) | (with_reducible exact P2.out) | (with_reducible exact P1.out) | (with_reducible exact P4.out)); (focus (exact ros_info))) | ((with_reducible refine ros_store rfl rfl ?_); apply StoreRow.mk rfl rfl; (focus first | (with_reducible exact Z4.out) | (with_reducible exact Z2.out) | (with_reducible exact Z1.out)); (focus (exact ros_info)); (focus rfl); (focus (exact ros_one _))) | (go_at_call 54; ((with_reducible refine ((cm _).out).mono ?_); rintro e w1 ⟨⟨v, rfl, hv⟩, hb⟩; obtain rfl : v = true := hv.2 HOK.out; have P1 := qh (P0.out.below hb P0.out.lt); have Z1 := qh (Z0.out.below hb Z0.out.lt); have K1 := qh (K0.out.trans (hb.mono K0.out.size)); have k1 := P1.out.cell; have f1 := P1.out.free; clear hb hv)) | (go_at_call 29; ((with_reducible refine ((cl _).out).mono ?_); rintro e w2 ⟨⟨v, rfl, hv⟩, hb⟩; have hv' := slot_of HOK.out HPP.out.1 HPP.out.2 hv; obtain rfl : v = -1 := hv'.trans H6.out; have P2 := qh (P1.out.below hb P1.out.lt); have Z2 := qh (Z1.out.below hb Z1.out.lt); have K2 := qh (K1.out.trans (hb.mono K1.out.size)); have k2 := P2.out.cell; have f2 := P2.out.free; clear hb hv hv')))
       refine bodyPost_ret (v := .tuple #[.agg (Ros.cells r), .int .i64 1]) ?_ ?_ ?_
       · exact results_cell_tmp (p := 6) (q := 7) rfl _ _ _ _ (Ros.cells r) _ rfl (Box.row Z2.out _) Tryz.underlying38 rfl ros_info
       · rfl
       · exact ⟨rfl, Below.setRow' K2.out (by omega) _⟩
     · have h8 : 1073741824 ≤ ve := h7c.resolve_left h7
       clear h7c
       go_enter Tryz.func55, Tryz.ntmps55
       go_wp2_with (first | (with_reducible refine ros_alloc rfl rfl ?_) | ((with_reducible refine ros_load_g ?_ rfl ?_); (focus first | (simp [Region.wanted, yielded, h1', h2, h3, h4, h5]; done) | (simp [Region.wanted, yielded]; done)); apply LoadRow.mk rfl; (focus (with_reducible exact P1.out)); (focus (exact ros_info))) | ((with_reducible refine ros_load rfl rfl ?_); apply LoadRow.mk rfl; (focus first | (with_reducible exact P0.out) | (with_reducible exact P2.out) | (with_reducible exact P1.out) | (with_reducible exact P4.out)); (focus (exact ros_info))) | ((with_reducible refine ros_store rfl rfl ?_); apply StoreRow.mk rfl rfl; (focus first | (with_reducible exact Z4.out) | (with_reducible exact Z2.out) | (with_reducible exact Z1.out)); (focus (exact ros_info)); (focus rfl); (focus (exact ros_one _))) | (go_at_call 54; ((with_reducible refine ((cm _).out).mono ?_); rintro e w1 ⟨⟨v, rfl, hv⟩, hb⟩; obtain rfl : v = true := hv.2 HOK.out; have P1 := qh (P0.out.below hb P0.out.lt); have Z1 := qh (Z0.out.below hb Z0.out.lt); have K1 := qh (K0.out.trans (hb.mono K0.out.size)); have k1 := P1.out.cell; have f1 := P1.out.free; clear hb hv)) | (go_at_call 29; ((with_reducible refine ((cl _).out).mono ?_); rintro e w2 ⟨⟨v, rfl, hv⟩, hb⟩; have hv' := slot_of HOK.out HPP.out.1 HPP.out.2 hv; obtain rfl : v = -1 := hv'.trans H6.out; have P2 := qh (P1.out.below hb P1.out.lt); have Z2 := qh (Z1.out.below hb Z1.out.lt); have K2 := qh (K1.out.trans (hb.mono K1.out.size)); have k2 := P2.out.cell; have f2 := P2.out.free; clear hb hv hv')))
       refine bodyPost_ret (v := .tuple #[.agg (Ros.cells r), .int .i64 1]) ?_ ?_ ?_
       · exact results_cell_tmp (p := 6) (q := 7) rfl _ _ _ _ (Ros.cells r) _ rfl (Box.row Z2.out _) Tryz.underlying38 rfl ros_info
       · rfl
       · exact ⟨rfl, Below.setRow' K2.out (by omega) _⟩
   · have H6 := qh h6
     clear hno' hp1 hg1 h6
     go_enter Tryz.func55, Tryz.ntmps55
     go_wp2_with (first | (with_reducible refine ros_alloc rfl rfl ?_) | ((with_reducible refine ros_load_g ?_ rfl ?_); (focus first | (simp [Region.wanted, yielded, h1', h2, h3, h4, h5]; done) | (simp [Region.wanted, yielded]; done)); apply LoadRow.mk rfl; (focus (with_reducible exact P1.out)); (focus (exact ros_info))) | ((with_reducible refine ros_load rfl rfl ?_); apply LoadRow.mk rfl; (focus first | (with_reducible exact P0.out) | (with_reducible exact P2.out) | (with_reducible exact P1.out) | (with_reducible exact P4.out)); (focus (exact ros_info))) | ((with_reducible refine ros_store rfl rfl ?_); apply StoreRow.mk rfl rfl; (focus first | (with_reducible exact Z4.out) | (with_reducible exact Z2.out) | (with_reducible exact Z1.out)); (focus (exact ros_info)); (focus rfl); (focus (exact ros_one _))) | (go_at_call 54; ((with_reducible refine ((cm _).out).mono ?_); rintro e w1 ⟨⟨v, rfl, hv⟩, hb⟩; obtain rfl : v = true := hv.2 HOK.out; have P1 := qh (P0.out.below hb P0.out.lt); have Z1 := qh (Z0.out.below hb Z0.out.lt); have K1 := qh (K0.out.trans (hb.mono K0.out.size)); have k1 := P1.out.cell; have f1 := P1.out.free; clear hb hv)) | (go_at_call 29; ((with_reducible refine ((cl _).out).mono ?_); rintro e w2 ⟨⟨v, rfl, hv⟩, hb⟩; have hv' := slot_of HOK.out HPP.out.1 HPP.out.2 hv; obtain ⟨j, _, rfl, _, _⟩ : ∃ j : Nat, j < 8 ∧ v = j ∧ True ∧ True := (by rcases hv with ⟨e, _⟩ | ⟨j, hj, e, _⟩; exact absurd (hv'.symm.trans e) H6.out; exact ⟨j, hj, e, trivial, trivial⟩); have P2 := qh (P1.out.below hb P1.out.lt); have Z2 := qh (Z1.out.below hb Z1.out.lt); have K2 := qh (K1.out.trans (hb.mono K1.out.size)); have k2 := P2.out.cell; have f2 := P2.out.free; clear hb hv hv')))
     refine bodyPost_ret (v := .tuple #[.agg (Ros.cells r), .int .i64 1]) ?_ ?_ ?_
     · exact results_cell_tmp (p := 6) (q := 7) rfl _ _ _ _ (Ros.cells r) _ rfl (Box.row Z2.out _) Tryz.underlying38 rfl ros_info
     · rfl
     · exact ⟨rfl, Below.setRow' K2.out (by omega) _⟩
 · have HOK := qh hok
   clear hok hno cl
   go_enter Tryz.func55, Tryz.ntmps55
   go_wp2_with (first | (with_reducible refine ros_alloc rfl rfl ?_) | ((with_reducible refine ros_load rfl rfl ?_); apply LoadRow.mk rfl; (focus first | (with_reducible exact P0.out) | (with_reducible exact P2.out) | (with_reducible exact P1.out) | (with_reducible exact P4.out)); (focus (exact ros_info))) | ((with_reducible refine ros_store rfl rfl ?_); apply StoreRow.mk rfl rfl; (focus first | (with_reducible exact Z4.out) | (with_reducible exact Z2.out) | (with_reducible exact Z1.out)); (focus (exact ros_info)); (focus rfl); (focus (exact ros_one _))) | (go_at_call 54; ((with_reducible refine ((cm _).out).mono ?_); rintro e w1 ⟨⟨v, rfl, hv⟩, hb⟩; obtain rfl : v = false := (by cases v <;> first | rfl | exact absurd (hv.1 rfl) HOK.out); have P1 := qh (P0.out.below hb P0.out.lt); have Z1 := qh (Z0.out.below hb Z0.out.lt); have K1 := qh (K0.out.trans (hb.mono K0.out.size)); have k1 := P1.out.cell; have f1 := P1.out.free; clear hb hv)))
   refine bodyPost_ret (v := .tuple #[.agg (Ros.cells r), .int .i64 1]) ?_ ?_ ?_
   · exact results_cell_tmp (p := 6) (q := 7) rfl _ _ _ _ (Ros.cells r) _ rfl (Box.row Z1.out _) Tryz.underlying38 rfl ros_info
   · rfl
   · exact ⟨rfl, Below.setRow' K1.out (by omega) _⟩
theorem reftake_yes (r : Ros.R) (k : Nat) (p : Int) (w : World) (hy : Ros.MayTake r k p) :
 Calls Tryz.prog 55 #[.agg (Ros.cells r), .int .i64 (k : Int), .int .i64 p] w fun e w' => e = .returned (.tuple #[.agg (Ros.cells (Ros.take r k p)), .int .i64 0]) ∧ Below w.heap.size w w' := by
 have P0 := qh ((Box.made w 38 (Ros.cells r)).alloc (.cells (Ros.cells rosZero) 38))
 have Z0 := qh (Box.made_at (n := w.heap.size + 1) (w.alloc (.cells (Ros.cells r) 38)) 38 (Ros.cells rosZero) (by simp))
 have K0 := qh (two_below' w (.cells (Ros.cells r) 38) (.cells (Ros.cells rosZero) 38))
 have cm := fun X => qh (refros_may r X)
 have r0 := Ros.cells_0 r
 have cl := fun X => qh (refslot_any r p X)
 obtain ⟨⟨⟨⟨hok, hv⟩, h0, h8⟩, hpp, hof⟩, hpk0, hgk0⟩ := hy
 have HOK := qh hok
 have hk8 : k < 8 := by omega
 have hk8' : (k : Int) < 8 := by omega
 have h1' : ¬ (k : Int) < 0 := by omega
 have hs := hok.seat k hk8
 have hs1 := hs.1
 have h3 : ¬ 0 ≤ r.peer k := by have : r.peer k = -1 := hpk0; omega
 have hg3 : ¬ 60000 ≤ r.gen k := by have : r.gen k ≠ 60000 := hgk0; omega
 have hv3 : ¬ 1073741824 ≤ r.version := by omega
 have h4 : ¬ p < 0 := by omega
 have h5 : ¬ 12 ≤ p := by omega
 have h2 : ¬ 8 ≤ (k : Int) := by omega
 have HPP := qh hpp
 have H6 := qh hof
 have hwv := IntWalk.i64_in (n := r.version + 1) (by have := hok.1; omega)
 have hwg := IntWalk.i64_in (n := r.gen k + 1) (by omega)
 have HK := qh hk8
 have q1 := Ros.cells_peer r k hk8
 have q2 := Ros.cells_gen r k hk8
 have HT := qh (show Ros.cells ⟨r.version + 1, Ros.upd r.peer k p, Ros.upd r.gen k (r.gen k + 1)⟩ = Ros.cells (Ros.take r k p) from rfl)
 obtain ⟨pk, hpk⟩ : ∃ pk, pk = r.peer k := ⟨_, rfl⟩
 obtain ⟨gk, hgk⟩ : ∃ gk, gk = r.gen k := ⟨_, rfl⟩
 rw [← hpk] at q1 h3
 rw [← hgk] at q2 hg3 hwg HT
 clear hok hpk hgk hv hs hs1 hpk0 hgk0 hof hpp
 go_enter Tryz.func55, Tryz.ntmps55
 go_upto_region 3 with (first | (with_reducible refine ros_alloc rfl rfl ?_) | ((with_reducible refine ros_load_g ?_ rfl ?_); (focus first | (simp [Region.wanted, yielded, h1', h2, h3, h4, h5]; done) | (simp [Region.wanted, yielded]; done)); apply LoadRow.mk rfl; (focus (with_reducible exact P1.out)); (focus (exact ros_info))) | ((with_reducible refine ros_load rfl rfl ?_); apply LoadRow.mk rfl; (focus first | (with_reducible exact P0.out) | (with_reducible exact P2.out) | (with_reducible exact P1.out) | (with_reducible exact P4.out)); (focus (exact ros_info))) | (go_at_call 54; ((with_reducible refine ((cm _).out).mono ?_); rintro e w1 ⟨⟨v, rfl, hv⟩, hb⟩; obtain rfl : v = true := hv.2 HOK.out; have P1 := qh (P0.out.below hb P0.out.lt); have Z1 := qh (Z0.out.below hb Z0.out.lt); have K1 := qh (K0.out.trans (hb.mono K0.out.size)); have k1 := P1.out.cell; have f1 := P1.out.free; clear hb hv)) | (go_at_call 29; ((with_reducible refine ((cl _).out).mono ?_); rintro e w2 ⟨⟨v, rfl, hv⟩, hb⟩; have hv' := slot_of HOK.out HPP.out.1 HPP.out.2 hv; obtain rfl : v = -1 := hv'.trans H6.out; have P2 := qh (P1.out.below hb P1.out.lt); have Z2 := qh (Z1.out.below hb Z1.out.lt); have K2 := qh (K1.out.trans (hb.mono K1.out.size)); have k2 := P2.out.cell; have f2 := P2.out.free; clear hb hv hv')))
 have P3 := qh (P2.out.row (Ros.cells ⟨r.version, Ros.upd r.peer k p, Ros.upd r.gen k (gk + 1)⟩))
 have Z3 := qh (Z2.out.row_far (show w.heap.size + 1 ≠ w.heap.size by omega) (Ros.cells ⟨r.version, Ros.upd r.peer k p, Ros.upd r.gen k (gk + 1)⟩))
 have K3 := qh (Below.setRow' K2.out (Nat.le_refl _) (Ros.cells ⟨r.version, Ros.upd r.peer k p, Ros.upd r.gen k (gk + 1)⟩))
 go_upto_region 4 with ((with_reducible refine ros_store_seat rfl rfl ?_); apply StoreSeat.mk (q := p) (g := gk + 1) rfl rfl HK.out; (focus (with_reducible exact P2.out)); dsimp only)
 generalize hW3 : w2.setRow w.heap.size (Ros.cells ⟨r.version, Ros.upd r.peer k p, Ros.upd r.gen k (gk + 1)⟩) = W3 at P3 Z3 K3 ⊢
 clear hW3 P2 Z2 K2 k2 f2 P1 Z1 K1 k1 f1 P0 Z0 K0
 have c3 := P3.out.cell 0
 have d3 := P3.out.free 0
 rw [Ros.cells_0] at c3
 dsimp only at c3
 have P4 := qh (show Box (W3.setCell ⟨w.heap.size, 0, none⟩ (.int .i64 (r.version + 1))) w.heap.size 38 (Ros.cells (Ros.take r k p)) from HT.out ▸ P3.out.rosv (r.version + 1))
 have Z4 := qh (Z3.out.far (p := ⟨w.heap.size, 0, none⟩) (show w.heap.size + 1 ≠ w.heap.size by omega) (.int .i64 (r.version + 1)))
 have K4 := qh (K3.out.setCell (p := ⟨w.heap.size, 0, none⟩) (Nat.le_refl _) (.int .i64 (r.version + 1)))
 clear P3 Z3 K3
 go_wp2_with (first | ((with_reducible refine ros_load rfl rfl ?_); apply LoadRow.mk rfl; (focus first | (with_reducible exact P0.out) | (with_reducible exact P2.out) | (with_reducible exact P1.out) | (with_reducible exact P4.out)); (focus (exact ros_info))) | ((with_reducible refine ros_store rfl rfl ?_); apply StoreRow.mk rfl rfl; (focus first | (with_reducible exact Z4.out) | (with_reducible exact Z2.out) | (with_reducible exact Z1.out)); (focus (exact ros_info)); (focus rfl); (focus (exact ros_one _))))
 refine bodyPost_ret (v := .tuple #[.agg (Ros.cells (Ros.take r k p)), .int .i64 0]) ?_ ?_ ?_
 · exact results_cell_tmp (p := 6) (q := 7) rfl _ _ _ _ (Ros.cells (Ros.take r k p)) _ rfl (Box.row Z4.out _) Tryz.underlying38 rfl ros_info
 · rfl
 · exact ⟨rfl, Below.setRow' K4.out (by omega) _⟩
theorem seat_neq (a b c d : Int) (w : World) : (binOp .neq 35 (.agg #[.int .i64 a, .int .i64 b]) (.agg #[.int .i64 c, .int .i64 d])).run Tryz.prog w = .ok (.bool (!decide (a = c ∧ b = d))) w := by
 have h : (Op.equalIn 10000 35 (.agg #[.int .i64 a, .int .i64 b]) (.agg #[.int .i64 c, .int .i64 d])).run Tryz.prog w = .ok (decide (a = c ∧ b = d)) w := by
  by_cases h1 : a = c
  · by_cases h2 : b = d
    · subst h1 h2; go_simp <;> simp
    · have h4 : (b == d) = false := by simpa using h2
      subst h1; go_simp <;> simp [h4, h2]
  · have h4 : (a == c) = false := by simpa using h1
    go_simp <;> simp [h4, h1]
 generalize #[Value.int .i64 a, .int .i64 b] = F at *
 generalize #[Value.int .i64 c, .int .i64 d] = G at *
 go_simp
theorem refevent_join (r : Ros.R) (k : Nat) (gn pe : Int) (w : World) (ht : Ros.MayTake r k pe) (hg : gn = r.gen k + 1) :
 Calls Tryz.prog 31 #[.agg (Ros.cells r), .agg #[.int .i64 1, .int .i64 (k : Int), .int .i64 gn, .int .i64 pe]] w fun e w' => e = .returned (.tuple #[.agg (Ros.cells (Ros.take r k pe)), .int .i64 0]) ∧ Below w.heap.size w w' := by
 have R0 := qh (((Box.made w 38 (Ros.cells r)).alloc (.cells #[.int .i64 1, .int .i64 (k : Int), .int .i64 gn, .int .i64 pe] 79)).alloc (.cells (Ros.cells rosZero) 38))
 have E0 := qh ((Box.made_at (n := w.heap.size + 1) (w.alloc (.cells (Ros.cells r) 38)) 79 #[.int .i64 1, .int .i64 (k : Int), .int .i64 gn, .int .i64 pe] (by simp)).alloc (.cells (Ros.cells rosZero) 38))
 have Z0 := qh (Box.made_at (n := w.heap.size + 1 + 1) ((w.alloc (.cells (Ros.cells r) 38)).alloc (.cells #[.int .i64 1, .int .i64 (k : Int), .int .i64 gn, .int .i64 pe] 79)) 38 (Ros.cells rosZero) (by simp))
 have K0 := qh ((two_below' w (.cells (Ros.cells r) 38) (.cells #[.int .i64 1, .int .i64 (k : Int), .int .i64 gn, .int .i64 pe] 79)).alloc (by simp <;> omega) (.cells (Ros.cells rosZero) 38))
 have ct := fun X => qh (reftake_yes r k pe X ht)
 have hk8 : k < 8 := by have := ht.1.1.2; omega
 have hk8' : (k : Int) < 8 := by omega
 have hk0 : 0 ≤ (k : Int) := by omega
 have qg : (Ros.cells (Ros.take r k pe))[1 + k * 2 + 1]? = some (.int .i64 (r.gen k + 1)) := (Ros.cells_gen _ k hk8).trans (by show some (Value.int .i64 (Ros.upd r.gen k (r.gen k + 1) k)) = _; rw [Ros.upd_same])
 have hne : (r.gen k + 1 != gn) = false := by simp [hg]
 clear ht hg
 go_enter Tryz.func31, Tryz.ntmps31
 go_upto_region 4 with (first | (with_reducible refine ros_alloc rfl rfl ?_) | ((with_reducible refine ros_load rfl rfl ?_); apply LoadRow.mk rfl; (focus first | (with_reducible exact R0.out)); (focus (exact ros_info))) | (go_at_call 55; ((with_reducible refine ((ct _).out).mono ?_); rintro e w1 ⟨rfl, hb⟩; have R1 := qh ((R0.out.below hb R0.out.lt).alloc (.cells (Ros.cells (Ros.take r k pe)) 38)); have E1 := qh ((E0.out.below hb E0.out.lt).alloc (.cells (Ros.cells (Ros.take r k pe)) 38)); have Z1 := qh ((Z0.out.below hb Z0.out.lt).alloc (.cells (Ros.cells (Ros.take r k pe)) 38)); have N1 := qh (Box.made w1 38 (Ros.cells (Ros.take r k pe))); have K1 := qh ((K0.out.trans (hb.mono K0.out.size)).alloc (Nat.le_trans K0.out.size hb.size) (.cells (Ros.cells (Ros.take r k pe)) 38)); clear hb)) | ((with_reducible refine ros_store_new rfl rfl rfl rfl rfl ?_)))
 generalize hW1 : w1.alloc (.cells (Ros.cells (Ros.take r k pe)) 38) = W1 at R1 E1 Z1 N1 K1 ⊢
 generalize w1.heap.size = bn at N1 ⊢
 clear hW1 R0 E0 Z0 K0
 have e1 := E1.out.cell
 have n1 := N1.out.cell
 have r1 := R1.out.cell
 have R3 := fun m => qh (R1.out.draws m)
 have N3 := fun m => qh (N1.out.draws m)
 have Z3 := fun m => qh (Z1.out.draws m)
 have K3 := fun m => qh (draws_below K1.out m)
 go_quiet (fail)
 go_wp2_with (first | ((with_reducible refine ros_load rfl rfl ?_); apply LoadRow.mk rfl; (focus first | (with_reducible exact (N3 _).out)); (focus (exact ros_info))) | ((with_reducible refine ros_store rfl rfl ?_); apply StoreRow.mk rfl rfl; (focus (with_reducible exact (Z3 _).out)); (focus (exact ros_info)); (focus rfl); (focus (exact ros_one _))))
 refine bodyPost_ret (v := .tuple #[.agg (Ros.cells (Ros.take r k pe)), .int .i64 0]) ?_ ?_ ?_
 · exact results_cell_tmp (p := 4) (q := 5) rfl _ _ _ _ (Ros.cells (Ros.take r k pe)) _ rfl (Box.row (Z3 _).out _) Tryz.underlying38 rfl ros_info
 · rfl
 · exact ⟨rfl, Below.setRow' (K3 _).out (by omega) _⟩
theorem refevent_join_gen (r : Ros.R) (k : Nat) (gn pe : Int) (w : World) (ht : Ros.MayTake r k pe) (hg : gn ≠ r.gen k + 1) :
 Calls Tryz.prog 31 #[.agg (Ros.cells r), .agg #[.int .i64 1, .int .i64 (k : Int), .int .i64 gn, .int .i64 pe]] w fun e w' => e = .returned (.tuple #[.agg (Ros.cells (r)), .int .i64 1]) ∧ Below w.heap.size w w' := by
 have R0 := qh (((Box.made w 38 (Ros.cells r)).alloc (.cells #[.int .i64 1, .int .i64 (k : Int), .int .i64 gn, .int .i64 pe] 79)).alloc (.cells (Ros.cells rosZero) 38))
 have E0 := qh ((Box.made_at (n := w.heap.size + 1) (w.alloc (.cells (Ros.cells r) 38)) 79 #[.int .i64 1, .int .i64 (k : Int), .int .i64 gn, .int .i64 pe] (by simp)).alloc (.cells (Ros.cells rosZero) 38))
 have Z0 := qh (Box.made_at (n := w.heap.size + 1 + 1) ((w.alloc (.cells (Ros.cells r) 38)).alloc (.cells #[.int .i64 1, .int .i64 (k : Int), .int .i64 gn, .int .i64 pe] 79)) 38 (Ros.cells rosZero) (by simp))
 have K0 := qh ((two_below' w (.cells (Ros.cells r) 38) (.cells #[.int .i64 1, .int .i64 (k : Int), .int .i64 gn, .int .i64 pe] 79)).alloc (by simp <;> omega) (.cells (Ros.cells rosZero) 38))
 have ct := fun X => qh (reftake_yes r k pe X ht)
 have hk8 : k < 8 := by have := ht.1.1.2; omega
 have hk8' : (k : Int) < 8 := by omega
 have hk0 : 0 ≤ (k : Int) := by omega
 have qg : (Ros.cells (Ros.take r k pe))[1 + k * 2 + 1]? = some (.int .i64 (r.gen k + 1)) := (Ros.cells_gen _ k hk8).trans (by show some (Value.int .i64 (Ros.upd r.gen k (r.gen k + 1) k)) = _; rw [Ros.upd_same])
 have hne : (r.gen k + 1 != gn) = true := by simpa using fun h => hg h.symm
 clear ht hg
 go_enter Tryz.func31, Tryz.ntmps31
 go_upto_region 4 with (first | (with_reducible refine ros_alloc rfl rfl ?_) | ((with_reducible refine ros_load rfl rfl ?_); apply LoadRow.mk rfl; (focus first | (with_reducible exact R0.out)); (focus (exact ros_info))) | (go_at_call 55; ((with_reducible refine ((ct _).out).mono ?_); rintro e w1 ⟨rfl, hb⟩; have R1 := qh ((R0.out.below hb R0.out.lt).alloc (.cells (Ros.cells (Ros.take r k pe)) 38)); have E1 := qh ((E0.out.below hb E0.out.lt).alloc (.cells (Ros.cells (Ros.take r k pe)) 38)); have Z1 := qh ((Z0.out.below hb Z0.out.lt).alloc (.cells (Ros.cells (Ros.take r k pe)) 38)); have N1 := qh (Box.made w1 38 (Ros.cells (Ros.take r k pe))); have K1 := qh ((K0.out.trans (hb.mono K0.out.size)).alloc (Nat.le_trans K0.out.size hb.size) (.cells (Ros.cells (Ros.take r k pe)) 38)); clear hb)) | ((with_reducible refine ros_store_new rfl rfl rfl rfl rfl ?_)))
 generalize hW1 : w1.alloc (.cells (Ros.cells (Ros.take r k pe)) 38) = W1 at R1 E1 Z1 N1 K1 ⊢
 generalize w1.heap.size = bn at N1 ⊢
 clear hW1 R0 E0 Z0 K0
 have e1 := E1.out.cell
 have n1 := N1.out.cell
 have r1 := R1.out.cell
 have R3 := fun m => qh (R1.out.draws m)
 have N3 := fun m => qh (N1.out.draws m)
 have Z3 := fun m => qh (Z1.out.draws m)
 have K3 := fun m => qh (draws_below K1.out m)
 go_quiet (fail)
 go_wp2_with (first | ((with_reducible refine ros_load rfl rfl ?_); apply LoadRow.mk rfl; (focus first | (with_reducible exact (R3 _).out)); (focus (exact ros_info))) | ((with_reducible refine ros_store rfl rfl ?_); apply StoreRow.mk rfl rfl; (focus (with_reducible exact (Z3 _).out)); (focus (exact ros_info)); (focus rfl); (focus (exact ros_one _))))
 refine bodyPost_ret (v := .tuple #[.agg (Ros.cells (r)), .int .i64 1]) ?_ ?_ ?_
 · exact results_cell_tmp (p := 4) (q := 5) rfl _ _ _ _ (Ros.cells (r)) _ rfl (Box.row (Z3 _).out _) Tryz.underlying38 rfl ros_info
 · rfl
 · exact ⟨rfl, Below.setRow' (K3 _).out (by omega) _⟩
theorem refevent_join_no (r : Ros.R) (sl gn pe : Int) (w : World) (ht : ¬ Ros.MayTake r sl pe) :
 Calls Tryz.prog 31 #[.agg (Ros.cells r), .agg #[.int .i64 1, .int .i64 sl, .int .i64 gn, .int .i64 pe]] w fun e w' => e = .returned (.tuple #[.agg (Ros.cells (r)), .int .i64 1]) ∧ Below w.heap.size w w' := by
 have R0 := qh (((Box.made w 38 (Ros.cells r)).alloc (.cells #[.int .i64 1, .int .i64 sl, .int .i64 gn, .int .i64 pe] 79)).alloc (.cells (Ros.cells rosZero) 38))
 have E0 := qh ((Box.made_at (n := w.heap.size + 1) (w.alloc (.cells (Ros.cells r) 38)) 79 #[.int .i64 1, .int .i64 sl, .int .i64 gn, .int .i64 pe] (by simp)).alloc (.cells (Ros.cells rosZero) 38))
 have Z0 := qh (Box.made_at (n := w.heap.size + 1 + 1) ((w.alloc (.cells (Ros.cells r) 38)).alloc (.cells #[.int .i64 1, .int .i64 sl, .int .i64 gn, .int .i64 pe] 79)) 38 (Ros.cells rosZero) (by simp))
 have K0 := qh ((two_below' w (.cells (Ros.cells r) 38) (.cells #[.int .i64 1, .int .i64 sl, .int .i64 gn, .int .i64 pe] 79)).alloc (by simp <;> omega) (.cells (Ros.cells rosZero) 38))
 have ct := fun X => qh (reftake_no r sl pe X ht)
 clear ht
 go_enter Tryz.func31, Tryz.ntmps31
 go_upto_region 4 with (first | (with_reducible refine ros_alloc rfl rfl ?_) | ((with_reducible refine ros_load rfl rfl ?_); apply LoadRow.mk rfl; (focus first | (with_reducible exact R0.out)); (focus (exact ros_info))) | (go_at_call 55; ((with_reducible refine ((ct _).out).mono ?_); rintro e w1 ⟨rfl, hb⟩; have R1 := qh ((R0.out.below hb R0.out.lt).alloc (.cells (Ros.cells (r)) 38)); have E1 := qh ((E0.out.below hb E0.out.lt).alloc (.cells (Ros.cells (r)) 38)); have Z1 := qh ((Z0.out.below hb Z0.out.lt).alloc (.cells (Ros.cells (r)) 38)); have N1 := qh (Box.made w1 38 (Ros.cells (r))); have K1 := qh ((K0.out.trans (hb.mono K0.out.size)).alloc (Nat.le_trans K0.out.size hb.size) (.cells (Ros.cells (r)) 38)); clear hb)) | ((with_reducible refine ros_store_new rfl rfl rfl rfl rfl ?_)))
 generalize hW1 : w1.alloc (.cells (Ros.cells (r)) 38) = W1 at R1 E1 Z1 N1 K1 ⊢
 generalize w1.heap.size = bn at N1 ⊢
 clear hW1 R0 E0 Z0 K0
 have e1 := E1.out.cell
 have n1 := N1.out.cell
 have r1 := R1.out.cell
 have R3 := fun m => qh (R1.out.draws m)
 have N3 := fun m => qh (N1.out.draws m)
 have Z3 := fun m => qh (Z1.out.draws m)
 have K3 := fun m => qh (draws_below K1.out m)
 go_quiet (fail)
 go_wp2_with (first | ((with_reducible refine ros_load rfl rfl ?_); apply LoadRow.mk rfl; (focus first | (with_reducible exact (R3 _).out)); (focus (exact ros_info))) | ((with_reducible refine ros_store rfl rfl ?_); apply StoreRow.mk rfl rfl; (focus (with_reducible exact (Z3 _).out)); (focus (exact ros_info)); (focus rfl); (focus (exact ros_one _))))
 refine bodyPost_ret (v := .tuple #[.agg (Ros.cells (r)), .int .i64 1]) ?_ ?_ ?_
 · exact results_cell_tmp (p := 4) (q := 5) rfl _ _ _ _ (Ros.cells (r)) _ rfl (Box.row (Z3 _).out _) Tryz.underlying38 rfl ros_info
 · rfl
 · exact ⟨rfl, Below.setRow' (K3 _).out (by omega) _⟩
theorem refevent_leave (r : Ros.R) (k : Nat) (gn pe : Int) (w : World) (ht : Ros.MayGive r k) (hp : r.peer k = pe) (hg : r.gen k = gn) :
 Calls Tryz.prog 31 #[.agg (Ros.cells r), .agg #[.int .i64 2, .int .i64 (k : Int), .int .i64 gn, .int .i64 pe]] w fun e w' => e = .returned (.tuple #[.agg (Ros.cells (Ros.give r k)), .int .i64 0]) ∧ Below w.heap.size w w' := by
 have R0 := qh (((Box.made w 38 (Ros.cells r)).alloc (.cells #[.int .i64 2, .int .i64 (k : Int), .int .i64 gn, .int .i64 pe] 79)).alloc (.cells (Ros.cells rosZero) 38))
 have E0 := qh ((Box.made_at (n := w.heap.size + 1) (w.alloc (.cells (Ros.cells r) 38)) 79 #[.int .i64 2, .int .i64 (k : Int), .int .i64 gn, .int .i64 pe] (by simp)).alloc (.cells (Ros.cells rosZero) 38))
 have Z0 := qh (Box.made_at (n := w.heap.size + 1 + 1) ((w.alloc (.cells (Ros.cells r) 38)).alloc (.cells #[.int .i64 2, .int .i64 (k : Int), .int .i64 gn, .int .i64 pe] 79)) 38 (Ros.cells rosZero) (by simp))
 have K0 := qh ((two_below' w (.cells (Ros.cells r) 38) (.cells #[.int .i64 2, .int .i64 (k : Int), .int .i64 gn, .int .i64 pe] 79)).alloc (by simp <;> omega) (.cells (Ros.cells rosZero) 38))
 have ct := fun X => qh (refgive_yes r k X ht)
 have hk8 : k < 8 := by have := ht.1.2; omega
 have hk8' : (k : Int) < 8 := by omega
 have hk0 : 0 ≤ (k : Int) := by omega
 have qp := Ros.cells_peer r k hk8
 have qg := Ros.cells_gen r k hk8
 have hne := fun W => seat_neq (r.peer k) (r.gen k) pe gn W
 rw [decide_eq_true (And.intro hp hg), Bool.not_true] at hne
 clear ht hg hp
 go_enter Tryz.func31, Tryz.ntmps31
 go_upto_region 9 with (first | (with_reducible refine ros_alloc rfl rfl ?_) | ((with_reducible refine ros_load rfl rfl ?_); apply LoadRow.mk rfl; (focus first | (with_reducible exact R0.out)); (focus (exact ros_info))) | (go_at_call 56; ((with_reducible refine ((ct _).out).mono ?_); rintro e w1 ⟨rfl, hb⟩; have R1 := qh ((R0.out.below hb R0.out.lt).alloc (.cells (Ros.cells (Ros.give r k)) 38)); have E1 := qh ((E0.out.below hb E0.out.lt).alloc (.cells (Ros.cells (Ros.give r k)) 38)); have Z1 := qh ((Z0.out.below hb Z0.out.lt).alloc (.cells (Ros.cells (Ros.give r k)) 38)); have N1 := qh (Box.made w1 38 (Ros.cells (Ros.give r k))); have K1 := qh ((K0.out.trans (hb.mono K0.out.size)).alloc (Nat.le_trans K0.out.size hb.size) (.cells (Ros.cells (Ros.give r k)) 38)); clear hb)) | ((with_reducible refine ros_store_new rfl rfl rfl rfl rfl ?_)))
 generalize hW1 : w1.alloc (.cells (Ros.cells (Ros.give r k)) 38) = W1 at R1 E1 Z1 N1 K1 ⊢
 generalize w1.heap.size = bn at N1 ⊢
 clear hW1 R0 E0 Z0 K0
 have e1 := E1.out.cell
 have n1 := N1.out.cell
 have r1 := R1.out.cell
 have R3 := fun m => qh (R1.out.draws m)
 have N3 := fun m => qh (N1.out.draws m)
 have Z3 := fun m => qh (Z1.out.draws m)
 have K3 := fun m => qh (draws_below K1.out m)
 go_quiet (fail)
 go_wp2_with (first | ((with_reducible refine ros_load rfl rfl ?_); apply LoadRow.mk rfl; (focus first | (with_reducible exact (N3 _).out)); (focus (exact ros_info))) | ((with_reducible refine ros_store rfl rfl ?_); apply StoreRow.mk rfl rfl; (focus (with_reducible exact (Z3 _).out)); (focus (exact ros_info)); (focus rfl); (focus (exact ros_one _))))
 refine bodyPost_ret (v := .tuple #[.agg (Ros.cells (Ros.give r k)), .int .i64 0]) ?_ ?_ ?_
 · exact results_cell_tmp (p := 4) (q := 5) rfl _ _ _ _ (Ros.cells (Ros.give r k)) _ rfl (Box.row (Z3 _).out _) Tryz.underlying38 rfl ros_info
 · rfl
 · exact ⟨rfl, Below.setRow' (K3 _).out (by omega) _⟩
theorem refevent_leave_seat (r : Ros.R) (k : Nat) (gn pe : Int) (w : World) (ht : Ros.MayGive r k) (hp : ¬ (r.peer k = pe ∧ r.gen k = gn)) :
 Calls Tryz.prog 31 #[.agg (Ros.cells r), .agg #[.int .i64 2, .int .i64 (k : Int), .int .i64 gn, .int .i64 pe]] w fun e w' => e = .returned (.tuple #[.agg (Ros.cells (r)), .int .i64 1]) ∧ Below w.heap.size w w' := by
 have R0 := qh (((Box.made w 38 (Ros.cells r)).alloc (.cells #[.int .i64 2, .int .i64 (k : Int), .int .i64 gn, .int .i64 pe] 79)).alloc (.cells (Ros.cells rosZero) 38))
 have E0 := qh ((Box.made_at (n := w.heap.size + 1) (w.alloc (.cells (Ros.cells r) 38)) 79 #[.int .i64 2, .int .i64 (k : Int), .int .i64 gn, .int .i64 pe] (by simp)).alloc (.cells (Ros.cells rosZero) 38))
 have Z0 := qh (Box.made_at (n := w.heap.size + 1 + 1) ((w.alloc (.cells (Ros.cells r) 38)).alloc (.cells #[.int .i64 2, .int .i64 (k : Int), .int .i64 gn, .int .i64 pe] 79)) 38 (Ros.cells rosZero) (by simp))
 have K0 := qh ((two_below' w (.cells (Ros.cells r) 38) (.cells #[.int .i64 2, .int .i64 (k : Int), .int .i64 gn, .int .i64 pe] 79)).alloc (by simp <;> omega) (.cells (Ros.cells rosZero) 38))
 have ct := fun X => qh (refgive_yes r k X ht)
 have hk8 : k < 8 := by have := ht.1.2; omega
 have hk8' : (k : Int) < 8 := by omega
 have hk0 : 0 ≤ (k : Int) := by omega
 have qp := Ros.cells_peer r k hk8
 have qg := Ros.cells_gen r k hk8
 have hne := fun W => seat_neq (r.peer k) (r.gen k) pe gn W
 rw [decide_eq_false hp, Bool.not_false] at hne
 clear ht hp
 go_enter Tryz.func31, Tryz.ntmps31
 go_upto_region 9 with (first | (with_reducible refine ros_alloc rfl rfl ?_) | ((with_reducible refine ros_load rfl rfl ?_); apply LoadRow.mk rfl; (focus first | (with_reducible exact R0.out)); (focus (exact ros_info))) | (go_at_call 56; ((with_reducible refine ((ct _).out).mono ?_); rintro e w1 ⟨rfl, hb⟩; have R1 := qh ((R0.out.below hb R0.out.lt).alloc (.cells (Ros.cells (Ros.give r k)) 38)); have E1 := qh ((E0.out.below hb E0.out.lt).alloc (.cells (Ros.cells (Ros.give r k)) 38)); have Z1 := qh ((Z0.out.below hb Z0.out.lt).alloc (.cells (Ros.cells (Ros.give r k)) 38)); have N1 := qh (Box.made w1 38 (Ros.cells (Ros.give r k))); have K1 := qh ((K0.out.trans (hb.mono K0.out.size)).alloc (Nat.le_trans K0.out.size hb.size) (.cells (Ros.cells (Ros.give r k)) 38)); clear hb)) | ((with_reducible refine ros_store_new rfl rfl rfl rfl rfl ?_)))
 generalize hW1 : w1.alloc (.cells (Ros.cells (Ros.give r k)) 38) = W1 at R1 E1 Z1 N1 K1 ⊢
 generalize w1.heap.size = bn at N1 ⊢
 clear hW1 R0 E0 Z0 K0
 have e1 := E1.out.cell
 have n1 := N1.out.cell
 have r1 := R1.out.cell
 have R3 := fun m => qh (R1.out.draws m)
 have N3 := fun m => qh (N1.out.draws m)
 have Z3 := fun m => qh (Z1.out.draws m)
 have K3 := fun m => qh (draws_below K1.out m)
 go_quiet (fail)
 go_wp2_with (first | ((with_reducible refine ros_load rfl rfl ?_); apply LoadRow.mk rfl; (focus first | (with_reducible exact (R3 _).out)); (focus (exact ros_info))) | ((with_reducible refine ros_store rfl rfl ?_); apply StoreRow.mk rfl rfl; (focus (with_reducible exact (Z3 _).out)); (focus (exact ros_info)); (focus rfl); (focus (exact ros_one _))))
 refine bodyPost_ret (v := .tuple #[.agg (Ros.cells (r)), .int .i64 1]) ?_ ?_ ?_
 · exact results_cell_tmp (p := 4) (q := 5) rfl _ _ _ _ (Ros.cells (r)) _ rfl (Box.row (Z3 _).out _) Tryz.underlying38 rfl ros_info
 · rfl
 · exact ⟨rfl, Below.setRow' (K3 _).out (by omega) _⟩
theorem refevent_leave_no (r : Ros.R) (sl gn pe : Int) (w : World) (ht : ¬ Ros.MayGive r sl) :
 Calls Tryz.prog 31 #[.agg (Ros.cells r), .agg #[.int .i64 2, .int .i64 sl, .int .i64 gn, .int .i64 pe]] w fun e w' => e = .returned (.tuple #[.agg (Ros.cells (r)), .int .i64 1]) ∧ Below w.heap.size w w' := by
 have R0 := qh (((Box.made w 38 (Ros.cells r)).alloc (.cells #[.int .i64 2, .int .i64 sl, .int .i64 gn, .int .i64 pe] 79)).alloc (.cells (Ros.cells rosZero) 38))
 have E0 := qh ((Box.made_at (n := w.heap.size + 1) (w.alloc (.cells (Ros.cells r) 38)) 79 #[.int .i64 2, .int .i64 sl, .int .i64 gn, .int .i64 pe] (by simp)).alloc (.cells (Ros.cells rosZero) 38))
 have Z0 := qh (Box.made_at (n := w.heap.size + 1 + 1) ((w.alloc (.cells (Ros.cells r) 38)).alloc (.cells #[.int .i64 2, .int .i64 sl, .int .i64 gn, .int .i64 pe] 79)) 38 (Ros.cells rosZero) (by simp))
 have K0 := qh ((two_below' w (.cells (Ros.cells r) 38) (.cells #[.int .i64 2, .int .i64 sl, .int .i64 gn, .int .i64 pe] 79)).alloc (by simp <;> omega) (.cells (Ros.cells rosZero) 38))
 have ct := fun X => qh (refgive_no r sl X ht)
 clear ht
 go_enter Tryz.func31, Tryz.ntmps31
 go_upto_region 9 with (first | (with_reducible refine ros_alloc rfl rfl ?_) | ((with_reducible refine ros_load rfl rfl ?_); apply LoadRow.mk rfl; (focus first | (with_reducible exact R0.out)); (focus (exact ros_info))) | (go_at_call 56; ((with_reducible refine ((ct _).out).mono ?_); rintro e w1 ⟨rfl, hb⟩; have R1 := qh ((R0.out.below hb R0.out.lt).alloc (.cells (Ros.cells (r)) 38)); have E1 := qh ((E0.out.below hb E0.out.lt).alloc (.cells (Ros.cells (r)) 38)); have Z1 := qh ((Z0.out.below hb Z0.out.lt).alloc (.cells (Ros.cells (r)) 38)); have N1 := qh (Box.made w1 38 (Ros.cells (r))); have K1 := qh ((K0.out.trans (hb.mono K0.out.size)).alloc (Nat.le_trans K0.out.size hb.size) (.cells (Ros.cells (r)) 38)); clear hb)) | ((with_reducible refine ros_store_new rfl rfl rfl rfl rfl ?_)))
 generalize hW1 : w1.alloc (.cells (Ros.cells (r)) 38) = W1 at R1 E1 Z1 N1 K1 ⊢
 generalize w1.heap.size = bn at N1 ⊢
 clear hW1 R0 E0 Z0 K0
 have e1 := E1.out.cell
 have n1 := N1.out.cell
 have r1 := R1.out.cell
 have R3 := fun m => qh (R1.out.draws m)
 have N3 := fun m => qh (N1.out.draws m)
 have Z3 := fun m => qh (Z1.out.draws m)
 have K3 := fun m => qh (draws_below K1.out m)
 go_quiet (fail)
 go_wp2_with (first | ((with_reducible refine ros_load rfl rfl ?_); apply LoadRow.mk rfl; (focus first | (with_reducible exact (R3 _).out)); (focus (exact ros_info))) | ((with_reducible refine ros_store rfl rfl ?_); apply StoreRow.mk rfl rfl; (focus (with_reducible exact (Z3 _).out)); (focus (exact ros_info)); (focus rfl); (focus (exact ros_one _))))
 refine bodyPost_ret (v := .tuple #[.agg (Ros.cells (r)), .int .i64 1]) ?_ ?_ ?_
 · exact results_cell_tmp (p := 4) (q := 5) rfl _ _ _ _ (Ros.cells (r)) _ rfl (Box.row (Z3 _).out _) Tryz.underlying38 rfl ros_info
 · rfl
 · exact ⟨rfl, Below.setRow' (K3 _).out (by omega) _⟩
theorem refevent_yes (s : Fd.S) (v : En.Ev) (w : World) (hv : Fd.MayEv s v) :
 Calls Tryz.prog 31 #[.agg (Ros.cells s.r), .agg #[.int .i64 v.kind, .int .i64 v.slot, .int .i64 v.gen, .int .i64 v.peer]] w fun e w' => e = .returned (.tuple #[.agg (Ros.cells (Fd.after s v).r), .int .i64 0]) ∧ Below w.heap.size w w' := by
 rcases hv with ⟨hk, ht, hg⟩ | ⟨hk, ht, hp, hg⟩
 · obtain ⟨k, hk8, e, e', hpk, ht', hp0⟩ := Fd.take_on ht
   unfold Fd.after
   rw [if_pos hk, e', hk, e]
   exact refevent_join s.r k v.gen v.peer w ht' (by rw [hg, e'])
 · obtain ⟨k, hk8, e, e', hpk, ht'⟩ := Fd.give_on ht
   unfold Fd.after
   rw [if_neg (by omega), e', hk, e]
   exact refevent_leave s.r k v.gen v.peer w ht' (by rw [← hp, e']) (by rw [← hg, e'])
theorem refevent_no (s : Fd.S) (v : En.Ev) (w : World) (hv : En.evOk v) (hno : ¬ Fd.MayEv s v) :
 Calls Tryz.prog 31 #[.agg (Ros.cells s.r), .agg #[.int .i64 v.kind, .int .i64 v.slot, .int .i64 v.gen, .int .i64 v.peer]] w fun e w' => e = .returned (.tuple #[.agg (Ros.cells s.r), .int .i64 1]) ∧ Below w.heap.size w w' := by
 obtain ⟨q, sl, gn, pe⟩ := v
 obtain ⟨hk, hs, hg, hp⟩ := hv
 dsimp only at *
 obtain ⟨k, rfl⟩ : ∃ k : Nat, sl = k := ⟨sl.toNat, by omega⟩
 have hk8 : k < 8 := by omega
 rcases hk with rfl | rfl
 · by_cases h0 : Ros.MayGive s.r k
   · exact refevent_leave_seat s.r k gn pe w h0 (fun h1 => hno (.inr ⟨rfl, h0, by simpa using h1.1, by simpa using h1.2⟩))
   · exact refevent_leave_no s.r k gn pe w h0
 · by_cases h1 : Ros.MayTake s.r k pe
   · exact refevent_join_gen s.r k gn pe w h1 (fun h => hno (.inl ⟨rfl, h1, by simpa using h⟩))
   · exact refevent_join_no s.r k gn pe w h1
theorem ship_info7 : (Tryz.prog.info? 29).map (·.size) = some 7 := by kernel_rfl
theorem ship_splice (g : Gm.G) (s : Value) (i : Nat) (hi : i < 8) (u : Gm.Ship) : splice (Gm.cells g s) (2 + i * 7) u.cells = Gm.cells { g with ship := Gm.upd g.ship i u } s := by
 match i, hi with
 | 0, _ | 1, _ | 2, _ | 3, _ | 4, _ | 5, _ | 6, _ | 7, _ => rfl
section
variable {ops : Array Oper} {rest : List Oper} {o : Oper} {a : Act} {w : World} {Q : Exit → Act → World → Prop} {x y : Operand} {dst : Option Tmp} {p v : Value}
def StoreShip (ops : Array Oper) (Q : Exit → Act → World → Prop) (rest : List Oper) (dst : Option Tmp) (p v : Value) (a : Act) (w : World) : Prop :=
 ∃ (B i : Nat) (g : Gm.G) (s : Value) (u : Gm.Ship), p = .pointer (some ⟨B, 2 + i * 7, none⟩) ∧ v = .agg u.cells.toArray ∧ i < 8 ∧ Box w B 33 (Gm.cells g s) ∧ wpList Tryz.prog ops Q rest (a.put dst undef) (w.setRow B (Gm.cells { g with ship := Gm.upd g.ship i u } s))
theorem StoreShip.mk {B i : Nat} {g : Gm.G} {s : Value} {u : Gm.Ship} (hp : p = .pointer (some ⟨B, 2 + i * 7, none⟩)) (hv : v = .agg u.cells.toArray) (hi : i < 8) (hB : Box w B 33 (Gm.cells g s)) (h : wpList Tryz.prog ops Q rest (a.put dst undef) (w.setRow B (Gm.cells { g with ship := Gm.upd g.ship i u } s))) : StoreShip ops Q rest dst p v a w := ⟨B, i, g, s, u, hp, hv, hi, hB, h⟩
theorem gm_store_ship (hgd : o.guard = none) (ho : o.op = .store 29 x y) (h : StoreShip ops Q rest o.dst (a.eval x) (a.eval y) a w) : wpList Tryz.prog ops Q (o :: rest) a w := by
 obtain ⟨B, i, g, s, u, hx, hy, hi, hB, h⟩ := h
 refine wpList_store_mid hgd 29 x y ho B (2 + i * 7) u.cells.toArray hx hy (hB.there _ _ (by rw [Gm.cells_size]; show 2 + i * 7 + 7 ≤ 59; omega)) ship_info7 (by simp [Gm.Ship.cells, Value.oneCell']) ?_
 rw [setCells_row B 33 _ (2 + i * 7) (Gm.cells g s) w hB.is (by rw [Gm.cells_size]; show 2 + i * 7 + 7 ≤ 59; omega), ship_splice g s i hi u]
 exact h
end
theorem refremove_yes (g : Gm.G) (A : Option Addr) (n c i : Nat) (w : World) (hg : Gm.ok g) (hn : n = g.shots.length) (hr : Lies w w.heap.size 6 A n (Gm.shotCells g.shots)) (hi : i < 8) (ho : (g.ship i).on = true) :
 Calls Tryz.prog 36 #[.agg (Gm.cells g (.slice A n c)), .int .i64 i] w (Out (Gm.remove g i) 0 w) := by
 have b1 : Box ((w.alloc (.cells (Gm.cells g (.slice A n c)) 33)).alloc (.cells (Gm.cells zeroG (.slice none 0 0)) 33)) w.heap.size 33 (Gm.cells g (.slice A n c)) := (Box.made _ _ _).alloc _
 have b2 : Box ((w.alloc (.cells (Gm.cells g (.slice A n c)) 33)).alloc (.cells (Gm.cells zeroG (.slice none 0 0)) 33)) (w.heap.size + 1) 33 (Gm.cells zeroG (.slice none 0 0)) := Box.made_at _ _ _ (by simp)
 have hb0 := two_below' w (.cells (Gm.cells g (.slice A n c)) 33) (.cells (Gm.cells zeroG (.slice none 0 0)) 33)
 have cm := qh (refmay_yes g A n c _ hg hn ((hr.below hb0).wider hb0.size))
 have q0 : (Gm.cells g (.slice A n c))[2 + i * 7]? = some (.bool true) := (Gm.cells_ship g _ i 0 hi (by omega)).trans (by show some (Value.bool (g.ship i).on) = _; rw [ho])
 have hi8 : (i : Int) < 8 := by omega
 have hi0 : ¬ (i : Int) < 0 := by omega
 obtain ⟨i0, hi1, hz0, hz1, hz2⟩ := info_parts shot_info
 have hI := qh hi1
 have hZ := qh hz0
 have hS := qh hz1
 have hY := qh hz2
 have HI := qh hi
 have HR := qh hr
 have hN := qh hn
 have h32 : n ≤ 32 := by rw [hn]; exact hg.2.2.1
 have HB := qh hb0
 have B1 := qh b1
 have B2 := qh b2
 clear hr hn b1 b2 hb0 ho hg hi1 hz0 hz1 hz2 hi
 go_enter Tryz.func36, Tryz.ntmps36
 go_upto_region 3 with (first | (refine wpList_alloc_game rfl rfl ?_) | ((with_reducible refine load_gate rfl rfl ?_); apply LoadGame.mk rfl; (with_reducible exact B1.out)) | (go_at_call 58; ((with_reducible refine (cm.out).mono ?_); rintro e w1 ⟨rfl, hb⟩; have C1 := qh (B1.out.below hb (by simp <;> omega)); have C2 := qh (B2.out.below hb (by simp <;> omega)); have cc := C1.out.cell; have cl := C1.out.lt; have hbb := HB.out.trans (hb.mono HB.out.size); have HBB := qh hbb; have s1 : w.heap.size + 1 + 1 ≤ w1.heap.size := (by have := hb.size; simp at this; omega); clear hb hbb)))
 obtain ⟨G, hG⟩ : ∃ G : Gm.G, G = { g with ship := Gm.upd g.ship i Gm.Ship.none } := ⟨_, rfl⟩
 have D1 := qh (C1.out.row (Gm.cells G (.slice A n c)))
 have D2 := qh (C2.out.row_far (show w.heap.size + 1 ≠ w.heap.size by omega) (Gm.cells G (.slice A n c)))
 have DD := qh (Below.setRow' HBB.out (Nat.le_refl _) (Gm.cells G (.slice A n c)))
 have hsz : (w1.setRow w.heap.size (Gm.cells G (.slice A n c))).heap.size = w1.heap.size := setRow_size _ _ _
 have HG := qh hG
 subst hG
 go_upto_region 4 with ((with_reducible refine gm_store_ship rfl rfl ?_); apply StoreShip.mk (u := Gm.Ship.none) rfl rfl HI.out; (focus (with_reducible exact C1.out)); dsimp only)
 generalize hW2 : w1.setRow w.heap.size (Gm.cells { g with ship := Gm.upd g.ship i Gm.Ship.none } (.slice A n c)) = W2 at D1 D2 DD hsz ⊢
 clear C1 C2 cc cl hW2 HBB B1 B2 HB cm q0
 have hn := hN.out
 subst hn
 have X0 := qh (show Shoots g g.shots ⟨g.dice, Gm.upd g.ship i Gm.Ship.none, []⟩ A c w W2 (w.heap.size + 1) w.heap.size (w.heap.size + 1 + 1) (.slice none 0 0) from
  ⟨D1.out, ((HR.out.below DD.out).wider (by omega)), ⟨none, 0, rfl, World.ownsRow_nil _ _ _ _⟩, D2.out, DD.out, by omega⟩)
 clear D1 D2 DD hsz
 go_wp2
 go_loopw [6, 7] (fun s6 ii wr => ∃ k : Nat, k ≤ g.shots.length ∧ ii = .int .i64 k ∧ Shoots g g.shots ⟨g.dice, Gm.upd g.ship i Gm.Ship.none, (g.shots.take k).filter (oth i)⟩ A c w wr (w.heap.size + 1) w.heap.size (w.heap.size + 1 + 1) s6) (fun _ ii _ => g.shots.length - (intOf ii).toNat)
 case atStart => exact ⟨0, Nat.zero_le _, rfl, X0.out⟩
 case round =>
  obtain ⟨k, hk, rfl, hX⟩ := hrel
  clear X0
  have e58 := Gm.cells_58 { g with dice := g.dice, ship := Gm.upd g.ship i Gm.Ship.none } (.slice A g.shots.length c)
  have gc := hX.game.cell
  have gl := hX.game.lt
  dsimp only at gc
  by_cases hlt : k < g.shots.length
  · have hk8 : (k : Int) < g.shots.length := by omega
    obtain ⟨ad, rfl, hbl, a0, a1, a2, a3, a4, a5⟩ := shots_at hX.shots rfl k hlt
    have hsn := qh (oth_snoc i g.shots k hlt)
    obtain ⟨A3, c3, hs6, hO⟩ := hX.left
    have hlen : ((g.shots.take k).filter (oth i)).length ≤ k := Nat.le_trans (List.length_filter_le _ _) (by rw [List.length_take]; omega)
    generalize hLF : (g.shots.take k).filter (oth i) = left at *
    obtain ⟨s, hs⟩ : ∃ s, s = g.shots[k] := ⟨_, rfl⟩
    rw [← hs] at a0 a1 a2 a3 a4 a5
    have HSS := qh hs
    have hso : Hid (oth i s = decide (s.owner ≠ i)) := qh rfl
    obtain ⟨so, sx, sy, svx, svy, sl⟩ := s
    dsimp only at a0 a1 a2 a3 a4 a5 hs6 hO
    subst hs6
    have HX := qh hX
    have HOO := qh hO
    have ltA : ad.block < wr.heap.size := by have := hX.size; omega
    have hsz2 := hX.size
    clear hs hX hO hLF
    by_cases h1 : so = i
    · have HO := qh (show oth i ⟨so, sx, sy, svx, svy, sl⟩ = false from hso.out.trans (decide_eq_false (by simpa using h1)))
      subst h1
      go_wp2
      go_roundw
      case rel =>
       refine ⟨k + 1, by omega, by go_num, ?_⟩
       rw [hsn.out, ← HSS.out, HO.out]
       simp only [Bool.false_eq_true, if_false, List.append_nil]
       exact HX.out
      case measure => simp [intOf]; omega
    · have HO := qh (show oth i ⟨so, sx, sy, svx, svy, sl⟩ = true from hso.out.trans (decide_eq_true (by simpa using h1)))
      have hne : (so != i) = true := by simpa using h1
      clear hso
      go_wp2_with ((with_reducible refine append_gate (x := .tmp 47) (y := .tmp 53) (t := 31) (e := 72) (size := 6) (bytes := 32) rfl rfl Tryz.underlying31 hI.out hZ.out hS.out hY.out rfl (by decide) ?_); refine Appends.mk rfl (HOO.out.alloc _) (lies_made wr 72 ⟨so, sx, sy, svx, svy, sl⟩) (shotCells_one _) (by unfold maxLen; omega) (by omega) (by simp <;> omega) ?_; intro A4 k4 w2 own2 hg2; have SH2 := qh (shoots_kept HX.out HOO.out own2 hg2 (by omega)); clear own2 hg2)
      go_roundw
      case rel =>
       refine ⟨k + 1, by omega, by go_num, ?_⟩
       rw [hsn.out, ← HSS.out, HO.out]
       exact SH2.out
      case measure => simp [intOf]; omega
  · have hk8 : ¬ (k : Int) < g.shots.length := by omega
    obtain rfl : k = g.shots.length := by omega
    rw [List.take_length] at hX
    obtain ⟨A3, c3, hs6, hO⟩ := hX.left
    dsimp only at hs6 hO
    generalize hfin : g.shots.filter (oth i) = fin at *
    subst hs6
    have HF := qh hfin
    have nO := hX.game.unowned hO (by decide)
    have G4 := qh (show Box (wr.setCell ⟨w.heap.size, 58, none⟩ (.slice A3 fin.length c3)) w.heap.size 33 (Gm.cells (Gm.remove g i) (.slice A3 fin.length c3)) from blk_shots (g := Gm.remove g i) hX.game _)
    have R4 := qh (hX.res.far (p := ⟨w.heap.size, 58, none⟩) (show w.heap.size + 1 ≠ w.heap.size by omega) (.slice A3 fin.length c3))
    have O4 := qh (ownsRow_setCell_other (a := ⟨w.heap.size, 58, none⟩) hO nO (.slice A3 fin.length c3))
    have K4 := qh (hX.below.setCell (p := ⟨w.heap.size, 58, none⟩) (Nat.le_refl _) (.slice A3 fin.length c3))
    have gf := hX.game.free
    clear hX hO hfin nO
    go_wp2_with (first | ((with_reducible refine load_gate rfl rfl ?_); apply LoadGame.mk rfl; exact G4.out) | ((with_reducible refine store_gate rfl rfl ?_); apply StoreGame.mk rfl rfl rfl; exact R4.out))
    have hfl : Hid ((Gm.remove g i).shots.length = fin.length) := qh (by rw [← HF.out]; rfl)
    refine bodyPost_ret (v := .tuple #[.agg (Gm.cells (Gm.remove g i) (.slice A3 fin.length c3)), .int .i64 0]) ?_ ?_ ?_
    · exact results_cell_tmp (p := 4) (q := 5) rfl _ _ _ _ (Gm.cells (Gm.remove g i) (.slice A3 fin.length c3)) _ rfl (Box.row R4.out _) Tryz.underlying33 rfl game_info
    · rfl
    · refine ⟨A3, c3, by rw [hfl.out], ?_, Below.setRow' K4.out (by omega) _⟩
      have := Lies.owned (own_setRow O4.out (R4.out.unowned O4.out (by decide)) (Gm.cells (Gm.remove g i) (.slice A3 fin.length c3)))
      rw [hfl.out, show Gm.shotCells (Gm.remove g i).shots = Gm.shotCells fin from by rw [← HF.out]; rfl]
      exact this
open Go.RowKit
def spawned (w1 : World) (B i : Nat) (x y d : Int) : World :=
 (((((((w1.setCell ⟨B, 1, none⟩ (.int .u64 d)).setCell ⟨B, 2 + i * 7, none⟩ (.bool true)).setCell ⟨B, 2 + i * 7 + 1, none⟩ (.int .i32 x)).setCell ⟨B, 2 + i * 7 + 2, none⟩ (.int .i32 y)).setCell ⟨B, 2 + i * 7 + 3, none⟩ (.int .i32 0)).setCell ⟨B, 2 + i * 7 + 4, none⟩ (.int .i32 0)).setCell ⟨B, 2 + i * 7 + 5, none⟩ (.int .i64 0)).setCell ⟨B, 2 + i * 7 + 6, none⟩ (.int .i64 0)
theorem spawned_own {w1 : World} {B i : Nat} {g : Gm.G} {s : Value} (c1 : Box w1 B 33 (Gm.cells g s)) (hi : i < 8) (x y d : Int) :
 Box (spawned w1 B i x y d) B 33 (Gm.cells { g with dice := d, ship := Gm.upd g.ship i ⟨true, x, y, 0, 0, 0, 0⟩ } s) := blk_ship (blk_dice c1 d) hi ⟨true, x, y, 0, 0, 0, 0⟩
theorem spawned_other {w1 : World} {B B' i : Nat} {t : TypeId} {cs : Array Value} (c2 : Box w1 B' t cs) (hne : B' ≠ B) (x y d : Int) : Box (spawned w1 B i x y d) B' t cs :=
 (((((((c2.far hne _).far hne _).far hne _).far hne _).far hne _).far hne _).far hne _).far hne _
theorem spawned_below {w0 w1 : World} {C B i : Nat} (h : Below C w0 w1) (hC : C ≤ B) (x y d : Int) : Below C w0 (spawned w1 B i x y d) :=
 (((((((h.setCell hC _).setCell hC _).setCell hC _).setCell hC _).setCell hC _).setCell hC _).setCell hC _).setCell hC _
theorem refspawn_walk (g : Gm.G) (A : Option Addr) (n c i : Nat) (x y d : Int) (w : World) (hg : Gm.ok g) (hd : 0 ≤ g.dice ∧ g.dice ≤ 18446744073709551615) (hn : n = g.shots.length) (hr : Lies w w.heap.size 6 A n (Gm.shotCells g.shots)) (hi : i < 8) (ho : (g.ship i).on = false)
 (hx : Dn.share (Dn.next g.dice) 16777216 = x) (hy : Dn.share (Dn.next (Dn.next g.dice)) 16777216 = y) (hdd : Dn.next (Dn.next g.dice) = d) :
 Calls Tryz.prog 37 #[.agg (Gm.cells g (.slice A n c)), .int .i64 i] w fun e w' => e = .returned (.tuple #[.agg (Gm.cells { g with dice := d, ship := Gm.upd g.ship i ⟨true, x, y, 0, 0, 0, 0⟩ } (.slice A n c)), .int .i64 0]) ∧ Below w.heap.size w w' := by
 have b1 : Box ((w.alloc (.cells (Gm.cells g (.slice A n c)) 33)).alloc (.cells (Gm.cells zeroG (.slice none 0 0)) 33)) w.heap.size 33 (Gm.cells g (.slice A n c)) := (Box.made _ _ _).alloc _
 have b2 : Box ((w.alloc (.cells (Gm.cells g (.slice A n c)) 33)).alloc (.cells (Gm.cells zeroG (.slice none 0 0)) 33)) (w.heap.size + 1) 33 (Gm.cells zeroG (.slice none 0 0)) := Box.made_at _ _ _ (by simp)
 have hb0 := two_below' w (.cells (Gm.cells g (.slice A n c)) 33) (.cells (Gm.cells zeroG (.slice none 0 0)) 33)
 have cm := qh (refmay_yes g A n c _ hg hn ((hr.below hb0).wider hb0.size))
 have cp := fun X => qh (refplace_any g.dice hd X)
 rw [hx, hy, hdd] at cp
 have hi8 : (i : Int) < 8 := by omega
 obtain ⟨t, ht⟩ : ∃ t, t = g.ship i := ⟨_, rfl⟩
 have q0 : (Gm.cells g (.slice A n c))[2 + i * 7]? = some (.bool false) := (Gm.cells_ship g _ i 0 hi (by omega)).trans (by show some (Value.bool (g.ship i).on) = _; rw [ho])
 have q1 : (Gm.cells g (.slice A n c))[2 + i * 7 + 1]? = some (.int .i32 t.x) := (Gm.cells_ship g _ i 1 hi (by omega)).trans (by rw [ht]; rfl)
 have q2 : (Gm.cells g (.slice A n c))[2 + i * 7 + 2]? = some (.int .i32 t.y) := (Gm.cells_ship g _ i 2 hi (by omega)).trans (by rw [ht]; rfl)
 have q3 : (Gm.cells g (.slice A n c))[2 + i * 7 + 3]? = some (.int .i32 t.vx) := (Gm.cells_ship g _ i 3 hi (by omega)).trans (by rw [ht]; rfl)
 have q4 : (Gm.cells g (.slice A n c))[2 + i * 7 + 4]? = some (.int .i32 t.vy) := (Gm.cells_ship g _ i 4 hi (by omega)).trans (by rw [ht]; rfl)
 have q5 : (Gm.cells g (.slice A n c))[2 + i * 7 + 5]? = some (.int .i64 t.cool) := (Gm.cells_ship g _ i 5 hi (by omega)).trans (by rw [ht]; rfl)
 have q6 : (Gm.cells g (.slice A n c))[2 + i * 7 + 6]? = some (.int .i64 t.score) := (Gm.cells_ship g _ i 6 hi (by omega)).trans (by rw [ht]; rfl)
 have e1 := Gm.cells_1 g (.slice A n c)
 have hbz := qh hb0
 have B1 := qh b1
 have B2 := qh b2
 clear ht hn hr hb0 b1 b2 hx hy hdd ho hg
 go_enter Tryz.func37, Tryz.ntmps37
 go_wp2_with (first | (refine wpList_alloc_game rfl rfl ?_) | ((with_reducible refine load_gate rfl rfl ?_); apply LoadGame.mk rfl; (with_reducible exact B1.out)) | ((with_reducible refine load_gate rfl rfl ?_); apply LoadGame.mk rfl; exact F1.out) | (go_at_call 58; ((with_reducible refine (cm.out).mono ?_); rintro e w1 ⟨rfl, hb⟩; have c1 := B1.out.below hb (by simp; omega); have c2 := B2.out.below hb (by simp); have cc := c1.cell; have cf := c1.free; have cl := c1.lt; have hbb := qh (hbz.out.trans (hb.mono hbz.out.size)); have F1 := qh (spawned_own c1 hi x y d); have F2 := qh (spawned_other (B := w.heap.size) (i := i) c2 (by omega) x y d); clear c1 c2 hb)) | (go_at_call 60; ((with_reducible refine ((cp _).out).mono ?_); rintro e w' ⟨rfl, rfl⟩)) | (refine wpList_build_is rfl (t := 29) (vs := [(0, .bool true), (1, .int .i32 x), (2, .int .i32 y)]) rfl rfl (built_ship0 _ _) ?_) | ((with_reducible refine store_gate rfl rfl ?_); apply StoreGame.mk rfl rfl rfl; exact F2.out))
 refine bodyPost_ret (v := .tuple #[.agg (Gm.cells { g with dice := d, ship := Gm.upd g.ship i ⟨true, x, y, 0, 0, 0, 0⟩ } (.slice A n c)), .int .i64 0]) ?_ ?_ ?_
 · exact results_cell_tmp (p := 4) (q := 5) rfl _ _ _ _ (Gm.cells { g with dice := d, ship := Gm.upd g.ship i ⟨true, x, y, 0, 0, 0, 0⟩ } (.slice A n c)) _ rfl (Box.row F2.out _) Tryz.underlying33 rfl game_info
 · rfl
 · exact ⟨rfl, Below.setRow' (spawned_below hbb.out (Nat.le_refl _) x y d) (by omega) _⟩
theorem refspawn_yes (g : Gm.G) (A : Option Addr) (n c i : Nat) (w : World) (hg : Gm.ok g) (hd : 0 ≤ g.dice ∧ g.dice ≤ 18446744073709551615) (hn : n = g.shots.length) (hr : Lies w w.heap.size 6 A n (Gm.shotCells g.shots)) (hi : i < 8) (ho : (g.ship i).on = false) :
 Calls Tryz.prog 37 #[.agg (Gm.cells g (.slice A n c)), .int .i64 i] w fun e w' => e = .returned (.tuple #[.agg (Gm.cells (Gm.spawn g i) (.slice A n c)), .int .i64 0]) ∧ Below w.heap.size w w' :=
 refspawn_walk g A n c i _ _ _ w hg hd hn hr hi ho rfl rfl rfl
end Go.Proofs.YtbdlpbnfcnhajaaGreat
namespace En
open Go
end En
namespace Go.Proofs.YtbdlpbnfcnhajaaGreat
open Go.RowKit Go.Shelf
theorem Lies.boxed {W : World} {S n size : Nat} {t : TypeId} {xs : List Value} (h : Box W S t xs.toArray) (hl : xs.length = n * size) : Lies W W.heap.size size (some ⟨S, 0, none⟩) n xs :=
 ⟨hl, fun _ => ⟨_, rfl, h.lt⟩, fun ad e _ j u hj => by
  injection e with e
  subst e
  have hadd : (⟨S, 0, none⟩ : Addr).add j = ⟨S, j, none⟩ := by unfold Addr.add; split <;> simp_all
  rw [hadd, h.cell j, ← hj]
  simp⟩
end Go.Proofs.YtbdlpbnfcnhajaaGreat
namespace En
open Go
theorem Like.refl (e : E) : Like e e := ⟨rfl, rfl, fun _ _ => rfl⟩
theorem Like.symm {e o : E} (h : Like e o) : Like o e := ⟨h.1.symm, h.2.1.symm, fun i hi => (h.2.2 i hi).symm⟩
theorem Like.trans {e o u : E} (h : Like e o) (k : Like o u) : Like e u := ⟨h.1.trans k.1, h.2.1.trans k.2.1, fun i hi => (h.2.2 i hi).trans (k.2.2 i hi)⟩
end En
namespace Go.Proofs.YtbdlpbnfcnhajaaGreat
open Go.RowKit Go.Shelf
end Go.Proofs.YtbdlpbnfcnhajaaGreat
namespace En
open Go
open Classical in
noncomputable def eqB (l m : List S) : Bool := decide (l.length = m.length ∧ ∀ j (h : j < l.length) (h' : j < m.length), Like l[j].e m[j].e)
end En
namespace Go.Proofs.YtbdlpbnfcnhajaaGreat
open Go.RowKit Go.Shelf
section
variable {ops : Array Oper} {rest : List Oper} {o : Oper} {a : Act} {w : World} {Q : Exit → Act → World → Prop} {x : Operand} {dst : Option Tmp} {v : Value}
def BuildEn (ops : Array Oper) (Q : Exit → Act → World → Prop) (rest : List Oper) (dst : Option Tmp) (v : Value) (a : Act) (w : World) : Prop :=
 ∃ (e : En.E) (s : Value), v = .agg (En.cells e s) ∧ wpList Tryz.prog ops Q rest (a.put dst (.slice (some ⟨w.heap.size, 0, none⟩) 1 1)) (w.alloc (.cells (En.cells e s) 51))
theorem BuildEn.mk {e : En.E} {s : Value} (hv : v = .agg (En.cells e s)) (h : wpList Tryz.prog ops Q rest (a.put dst (.slice (some ⟨w.heap.size, 0, none⟩) 1 1)) (w.alloc (.cells (En.cells e s) 51))) : BuildEn ops Q rest dst v a w := ⟨e, s, hv, h⟩
end
theorem LiesS.one {W : World} {S : Nat} {e : En.E} {A : Option Addr} {c : Nat} (h : Box W S 51 (En.cells e (.slice A e.evs.length c))) (hL : Lies W W.heap.size 4 A e.evs.length (En.evCells e.evs)) (hf : e.evs.length ≤ maxLen) : LiesS W W.heap.size (some ⟨S, 0, none⟩) 1 [⟨e, A, c⟩] := by
 refine ⟨Lies.boxed (t := 51) ?_ rfl, fun q hq => ?_, fun q hq => ?_⟩
 · have e1 : (En.sCells [⟨e, A, c⟩]).toArray = En.cells e (.slice A e.evs.length c) := by unfold En.sCells; rw [List.flatMap_cons, List.flatMap_nil, List.append_nil]; exact En.S.cells_arr _
   rw [e1]; exact h
 · obtain rfl := List.mem_singleton.1 hq; exact hL
 · obtain rfl := List.mem_singleton.1 hq; exact hf
namespace En
def e7 : En.E := ⟨7, [], En.in0⟩
end En
end Go.Proofs.YtbdlpbnfcnhajaaGreat
namespace Sx
open Go Im
def rest (n : Nat) (o : Option (List Int)) : Option (List Int) := (o.bind (rdn n)).map (·.2)
end Sx
namespace Go.Proofs.YtbdlpbnfcnhajaaGreat
open Go.RowKit Go.Shelf
structure Sol (B : Nat) (w w' : World) : Prop where
 os : w'.os = w.os
 tape : w'.tape = w.tape
 output : w'.output = w.output
 size : w.heap.size ≤ w'.heap.size
 block : ∀ k, k < w.heap.size → k ≠ B → w'.heap[k]? = w.heap[k]?
section
variable {B b : Nat} {w w' w'' : World}
theorem Sol.refl (B : Nat) (w : World) : Sol B w w := ⟨rfl, rfl, rfl, Nat.le_refl _, fun _ _ _ => rfl⟩
theorem Sol.trans (h : Sol B w w') (k : Sol B w' w'') : Sol B w w'' := ⟨k.os.trans h.os, k.tape.trans h.tape, k.output.trans h.output, Nat.le_trans h.size k.size, fun i hi hne => (k.block i (Nat.lt_of_lt_of_le hi h.size) hne).trans (h.block i hi hne)⟩
theorem Sol.put (h : Sol B w w') (i : Nat) (u : Value) : Sol B w (w'.setCell ⟨B, i, none⟩ u) := by
 have hz := (Below.refl 0 w').setCell (p := ⟨B, i, none⟩) (Nat.zero_le _) u
 exact h.trans ⟨hz.os, hz.tape, hz.output, hz.size, fun k hk hne => heap_setCell_other w' ⟨B, i, none⟩ k u hne⟩
theorem Sol.call (h : Sol B w w') (hb : Below w'.heap.size w' w'') : Sol B w w'' := h.trans ⟨hb.os, hb.tape, hb.output, hb.size, fun k hk _ => hb.block k hk⟩
theorem Sol.fresh (h : Sol B w w') {p : Addr} (hp : w.heap.size ≤ p.block) (u : Value) : Sol B w (w'.setCell p u) := by
 have hz := (Below.refl 0 w').setCell (p := p) (Nat.zero_le _) u
 exact ⟨hz.os.trans h.os, hz.tape.trans h.tape, hz.output.trans h.output, Nat.le_trans h.size hz.size, fun k hk hne => (heap_setCell_other w' p k u (by omega)).trans (h.block k hk hne)⟩
theorem Sol.freshRow (h : Sol B w w') {g : Nat} (hp : w.heap.size ≤ g) (cs : Array Value) : Sol B w (w'.setRow g cs) := by
 have hz := Below.setRow' (g := g) (Below.refl 0 w') (Nat.zero_le _) cs
 exact ⟨hz.os.trans h.os, hz.tape.trans h.tape, hz.output.trans h.output, Nat.le_trans h.size hz.size, fun k hk hne => (setRow_other w' g k cs (by omega)).trans (h.block k hk hne)⟩
theorem Sol.below (h : Sol B w w') (hb : b ≤ B) (hs : b ≤ w.heap.size) : Below b w w' := ⟨h.os, h.tape, h.output, h.size, fun i hi => h.block i (by omega) (by omega)⟩
end
section
variable {B : Nat} {w w' : World} {o : Option (List Int)}
end
end Go.Proofs.YtbdlpbnfcnhajaaGreat