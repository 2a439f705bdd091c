/-
Several texts in one: Sj Si Sk Lt Rf Sl Hh Eo Tu Tl Sq Mk.
-/
import Derived.Test.YtkkhdaeihnbilaaGreatFq12
namespace Go.Proofs.YtkkhdaeihnbilaaGreat
open Go.RowKit Go.Shelf
set_option linter.unusedVariables false
set_option linter.unusedSimpArgs false
namespace Fd
def evJ (k : Nat) (p : Int) : En.Ev := ⟨1, k, 1, p⟩
def in0 : Nat → Gm.In := fun _ => ⟨0, 0, 0⟩
/-- Behind a Join at frame 0. -/
def joined (d : Int) (k : Nat) (p : Int) (ps : Nat → Gm.In) : S := ⟨Gm.step ps (Gm.spawn (Gm.new d) k), Ros.take Ros.new k p⟩
def left (d : Int) (k : Nat) (p : Int) (ps : Nat → Gm.In) : S := ⟨Gm.step in0 (Gm.remove (joined d k p ps).g k), Ros.give (Ros.take Ros.new k p) k⟩
theorem new_ok : Ros.Ok Ros.new := by decide +kernel
theorem take_may {k : Nat} {p : Int} (hk : k < 8) (hp : 0 ≤ p ∧ p < 12) : Ros.MayTake Ros.new k p := by
  refine ⟨⟨⟨⟨new_ok, by show (0 : Int) < 1073741824; decide⟩, by omega, by omega⟩, hp, ?_⟩, rfl, by show (0 : Int) ≠ 60000; decide⟩
  unfold Ros.of
  rw [if_pos ⟨new_ok, hp.1, hp.2⟩]
  refine Ros.seatOf_none fun y hy => ?_
  show (-1 : Int) ≠ p
  omega
theorem row_one {v : En.Ev} (h : En.evOk v) : En.Row (-1) [v] := ⟨⟨h, by have := (En.place_lt h).1; omega⟩, trivial⟩
theorem row_nil : En.Row (-1) [] := trivial
theorem zero_ok {p : Gm.In} (h : En.zero p = true) : En.inOk p := by
  rw [En.zero_is h]; unfold En.inOk; dsimp only; omega
section
variable {d : Int} {k : Nat} {p : Int} {ps : Nat → Gm.In}
theorem join_change (hk : k < 8) (hp : 0 ≤ p ∧ p < 12) : changes (start d) [evJ k p] = some ⟨Gm.spawn (Gm.new d) k, Ros.take Ros.new k p⟩ := by
  have hv : MayEv (start d) (evJ k p) := .inl ⟨rfl, take_may hk hp, rfl⟩
  rw [changes_one, change_yes hv]
  rfl
theorem join_one (hd : 0 ≤ d ∧ d ≤ 18446744073709551615) (hk : k < 8) (hp : 0 ≤ p ∧ p < 12) (hin : ∀ i, i < 8 → En.inOk (ps i)) (hz : ∀ i, i < 8 → i ≠ k → En.zero (ps i) = true) : apply (start d) ⟨0, [evJ k p], ps⟩ = some (joined d k p ps) := by
  have hm : May (start d) ⟨0, [evJ k p], ps⟩ := ⟨(start_fine hd).ok, ⟨by dsimp only; omega, row_one ⟨.inr rfl, by show 0 ≤ (k : Int) ∧ (k : Int) < 8; omega, by show 1 ≤ (1 : Int) ∧ (1 : Int) ≤ 60000; decide, hp⟩, hin⟩, rfl⟩
  rw [apply_done hm (join_change hk hp) (fun i hi hn => ?_)]
  · rfl
  · by_cases e : i = k
    · subst e
      have : Ros.upd Ros.new.peer i p i < 0 := hn
      rw [Ros.upd_same] at this
      omega
    · exact hz i hi e
/-- With another one's input there is no entry. -/
theorem join_busy (hk : k < 8) (hp : 0 ≤ p ∧ p < 12) {j : Nat} (hj : j < 8) (hjk : j ≠ k) (hz : En.zero (ps j) = false) : apply (start d) ⟨0, [evJ k p], ps⟩ = none := by
  by_cases hm : May (start d) ⟨0, [evJ k p], ps⟩
  · exact apply_idle hm (join_change hk hp) (fun hi => by
      have := hi j hj (by show Ros.upd Ros.new.peer k p j < 0; rw [Ros.upd_other _ _ hjk]; show (-1 : Int) < 0; decide)
      rw [hz] at this; cases this)
  · exact apply_no hm
theorem joined_fine (hd : 0 ≤ d ∧ d ≤ 18446744073709551615) (hk : k < 8) (hp : 0 ≤ p ∧ p < 12) : Fine (joined d k p ps) ∧ (joined d k p ps).g.frame = 1 ∧ ((joined d k p ps).g.ship k).on = true := by
  have h1 := ((start_fine hd).changes (join_change hk hp)).1
  obtain ⟨h2, h3⟩ := h1.step ps (by show (0 : Int) < 1048576; decide)
  refine ⟨h2, h3.trans rfl, ?_⟩
  refine Eq.trans (h2.ok.2.2 k hk) (decide_eq_true ?_)
  show 0 ≤ Ros.upd Ros.new.peer k p k
  rw [Ros.upd_same]; exact hp.1
theorem joined_peer : (joined d k p ps).r.peer k = p := Ros.upd_same _ _ _
/-- An entry of another frame makes nothing. -/
theorem joined_late (hd : 0 ≤ d ∧ d ≤ 18446744073709551615) (hk : k < 8) (hp : 0 ≤ p ∧ p < 12) {e : En.E} (he : e.frame = 0) : apply (joined d k p ps) e = none :=
  apply_no fun h => by have := h.2.2; rw [(joined_fine hd hk hp).2.1, he] at this; cases this
end
/-- Two frames in which nothing is done. -/
def idle1 (d : Int) : S := ⟨Gm.step in0 (Gm.new d), Ros.new⟩
def idle2 (d : Int) : S := ⟨Gm.step in0 (idle1 d).g, Ros.new⟩
theorem idle_step {s : S} (hs : Fine s) (fr : Int) (hfr : fr = s.g.frame) (h0 : 0 ≤ fr ∧ fr < 1048576) : apply s ⟨fr, [], in0⟩ = some ⟨Gm.step in0 s.g, s.r⟩ := by
  have hm : May s ⟨fr, [], in0⟩ := ⟨hs.ok, ⟨h0, row_nil, fun i hi => zero_ok rfl⟩, hfr⟩
  rw [apply_done hm (changes_nil _) (fun i hi hn => rfl)]
theorem idle_run {d : Int} (hd : 0 ≤ d ∧ d ≤ 18446744073709551615) : run (start d) [⟨0, [], in0⟩, ⟨1, [], in0⟩] = some (idle2 d) ∧ (idle2 d).g.frame = 2 := by
  have h1 := (start_fine hd).step in0 (by show (0 : Int) < 1048576; decide)
  have e1 : apply (start d) ⟨0, [], in0⟩ = some (idle1 d) := idle_step (start_fine hd) 0 rfl (by decide)
  have e2 : apply (idle1 d) ⟨1, [], in0⟩ = some (idle2 d) := idle_step (s := idle1 d) h1.1 1 h1.2.symm (by decide)
  refine ⟨by rw [run_cons, e1, Option.bind_some, run_one, e2], ?_⟩
  have h2 := h1.1.step in0 (by rw [h1.2]; show (0 : Int) + 1 < 1048576; decide)
  exact h2.2.trans (by rw [h1.2]; rfl)
end Fd
end Go.Proofs.YtkkhdaeihnbilaaGreat
namespace Go.Proofs.YtkkhdaeihnbilaaGreat
open Go.RowKit Go.Shelf
set_option linter.unusedVariables false
set_option linter.unusedSimpArgs false


set_option maxRecDepth 100000 in
set_option maxHeartbeats 4000000 in
theorem equal_any (l m : List Gm.Shot) (A B : Option Addr) (n n' c d : Nat) (w : World) (hn : n = l.length) (hm : n' = m.length) (n64 : n ≤ maxLen) (m64 : n' ≤ maxLen) (hr : Lies w w.heap.size 6 A n (Gm.shotCells l)) (hq : Lies w w.heap.size 6 B n' (Gm.shotCells m)) :
    Calls Tryz.prog 78 #[.slice A n c, .slice B n' d] w fun e w' => (∃ v, e = .returned (.bool v) ∧ (v = true ↔ l = m)) ∧ Below w.heap.size w w' := by
  have hN := Lib.hid hn
  have hM := Lib.hid hm
  have n63 : (n : Int) ≤ 9223372036854775807 := by unfold maxLen at n64; omega
  have m63 : (n' : Int) ≤ 9223372036854775807 := by unfold maxLen at m64; omega
  clear hn hm n64 m64
  by_cases hnn : n = n'
  · subst hnn
    go_enter Tryz.func78, Tryz.ntmps78
    go_wp2
    go_loopw [13] (fun i wr => ∃ k : Nat, k ≤ n ∧ i = .int .i64 k ∧ Below w.heap.size w wr ∧ ∀ j, j < k → l[j]? = m[j]?) (fun i _ => n - (intOf i).toNat)
    case atStart => exact ⟨0, by omega, rfl, Below.refl _ _, fun j hj => absurd hj (Nat.not_lt_zero j)⟩
    case round =>
      obtain ⟨k, hk, rfl, hb, hall⟩ := hrel
      have HALL := Lib.hid hall
      clear hall
      by_cases hlt : k < n
      · have hkg : k < l.length := by have := hN.out; omega
        have hkh : k < m.length := by have := hM.out; omega
        obtain ⟨ad, rfl, hbl, a0, a1, a2, a3, a4, a5⟩ := shots_at (hr.below hb) hN.out k hkg
        obtain ⟨bd, rfl, hbm, c0, c1, c2, c3, c4, c5⟩ := shots_at (hq.below hb) hM.out k hkh
        have HS := Lib.hid (show l = m → l[k]'hkg = m[k]'hkh from fun e => by simp only [e])
        have HT := Lib.hid (show l[k]'hkg = m[k]'hkh → ∀ j, j < k + 1 → l[j]? = m[j]? from fun e j hj => by
          by_cases ej : j = k
          · subst ej
            rw [List.getElem?_eq_getElem hkg, List.getElem?_eq_getElem hkh, e]
          · exact HALL.out j (by omega))
        have hsn := fun W => shot_neq (l[k]'hkg) (m[k]'hkh) W
        have hiff := @Gm.Shot.eqB_iff (l[k]'hkg) (m[k]'hkh)
        generalize l[k]'hkg = s at a0 a1 a2 a3 a4 a5 HS HT hsn hiff
        generalize m[k]'hkh = t at c0 c1 c2 c3 c4 c5 HS HT hsn hiff
        obtain ⟨owner, x, y, vx, vy, left⟩ := s
        obtain ⟨owner2, p, q, vp, vq, left2⟩ := t
        dsimp only at a0 a1 a2 a3 a4 a5 c0 c1 c2 c3 c4 c5
        simp only [Gm.Shot.cells] at hsn
        have hk8 : (k : Int) < n := by omega
        have HBB := Lib.hid hb
        clear hr hq hb
        cases hse : Gm.Shot.eqB ⟨owner, x, y, vx, vy, left⟩ ⟨owner2, p, q, vp, vq, left2⟩
        · rw [hse] at hsn hiff
          have hno := Lib.hid (show ¬ l = m from fun e => by have := hiff.2 (HS.out e); cases this)
          clear hse hiff
          go_upto_region 6 with fail
          go_quiet (fail)
          go_wp2
          go_ret
          exact ⟨by first | exact ⟨false, rfl, by simp; exact hno.out⟩ | exact .inl ⟨rfl, hno.out⟩, draws_below HBB.out _⟩
        · rw [hse] at hsn hiff
          have hn2 := Lib.hid (HT.out (hiff.1 rfl))
          clear hse hiff
          go_upto_region 6 with fail
          go_quiet (fail)
          go_wp2
          go_roundw
          case rel => exact ⟨k + 1, by omega, by go_num, draws_below HBB.out _, hn2.out⟩
          case measure => simp [intOf]; omega
      · have hk8 : ¬ (k : Int) < n := by omega
        have hyes := Lib.hid (show l = m from List.ext_getElem? fun j => by
          by_cases hj : j < n
          · exact HALL.out j (by omega)
          · rw [List.getElem?_eq_none (by have := hN.out; omega), List.getElem?_eq_none (by have := hM.out; omega)])
        have HBB := Lib.hid hb
        clear hr hq hb
        go_wp2
        go_ret
        exact ⟨by first | exact ⟨true, rfl, by simp; exact hyes.out⟩ | exact .inr ⟨rfl, hyes.out⟩, HBB.out⟩
  · have hno := Lib.hid (show ¬ l = m from fun e => hnn (by rw [hN.out, hM.out, e]))
    have hne : ((n : Int) != n') = true := by simp; omega
    clear hr hq hnn
    go_enter Tryz.func78, Tryz.ntmps78
    go_wp2
    go_ret
    exact ⟨by first | exact ⟨false, rfl, by simp; exact hno.out⟩ | exact .inl ⟨rfl, hno.out⟩, Below.refl _ _⟩

set_option maxRecDepth 100000 in
set_option maxHeartbeats 4000000 in
theorem same_any (g h : Gm.G) (A B : Option Addr) (n m c d : Nat) (w : World) (hn : n = g.shots.length) (hm : m = h.shots.length) (hr : Lies w w.heap.size 6 A n (Gm.shotCells g.shots)) (hq : Lies w w.heap.size 6 B m (Gm.shotCells h.shots))
    (n64 : n ≤ maxLen) (m64 : m ≤ maxLen) :
    Calls Tryz.prog 39 #[.agg (Gm.cells g (.slice A n c)), .agg (Gm.cells h (.slice B m d))] w fun e w' => (∃ v, e = .returned (.bool v) ∧ (v = true ↔ Gm.Eq g h)) ∧ Below w.heap.size w w' := by
  have b1 : Box ((w.alloc (.cells (Gm.cells g (.slice A n c)) 28)).alloc (.cells (Gm.cells h (.slice B m d)) 28)) w.heap.size 28 (Gm.cells g (.slice A n c)) := (Box.made _ _ _).alloc _
  have b2 : Box ((w.alloc (.cells (Gm.cells g (.slice A n c)) 28)).alloc (.cells (Gm.cells h (.slice B m d)) 28)) (w.heap.size + 1) 28 (Gm.cells h (.slice B m d)) := Box.made_at _ _ _ (by simp)
  have hb0 := two_below' w (.cells (Gm.cells g (.slice A n c)) 28) (.cells (Gm.cells h (.slice B m d)) 28)
  have ce := Lib.hid (equal_any g.shots h.shots A B n m c d _ hn hm n64 m64 ((hr.below hb0).wider hb0.size) ((hq.below hb0).wider hb0.size))
  have g0 := Gm.cells_0 g (.slice A n c)
  have g1 := Gm.cells_1 g (.slice A n c)
  have g58 := Gm.cells_58 g (.slice A n c)
  have h0 := Gm.cells_0 h (.slice B m d)
  have h1 := Gm.cells_1 h (.slice B m d)
  have h58 := Gm.cells_58 h (.slice B m d)
  have k1 := b1.cell
  have k2 := b2.cell
  have hB1 := Lib.hid b1
  have hB2 := Lib.hid b2
  have HB := Lib.hid hb0
  have HE := Lib.hid (show Gm.Eq g h ↔ g.frame = h.frame ∧ g.dice = h.dice ∧ (∀ i, i < 8 → g.ship i = h.ship i) ∧ g.shots = h.shots from Iff.rfl)
  have hse := @Gm.shipsEq_iff g.ship h.ship
  have hsh := fun W => ships_eql g.ship h.ship W
  generalize Gm.shipsEq g.ship h.ship = z at hse hsh
  clear b1 b2 hb0 hr hq hn hm
  by_cases e1 : g.frame = h.frame
  · rw [← e1] at h0
    by_cases e2 : g.dice = h.dice
    · rw [← e2] at h1
      cases z
      · have hno := Lib.hid (show ¬ Gm.Eq g h from fun e => by have := hse.2 e.2.2.1; cases this)
        clear hse e1 e2 HE ce
        go_enter Tryz.func39, Tryz.ntmps39
        go_wp2_with (first | (refine wpList_load_part_g (by first | rfl | kernel_rfl | simp [Region.wanted, yielded]) (ty := 25) rfl rfl hB1.out _ (ships_part _ _) Tryz.underlying25 rfl ships_info ?_) | (refine wpList_load_part_g (by first | rfl | kernel_rfl | simp [Region.wanted, yielded]) (ty := 25) rfl rfl hB2.out _ (ships_part _ _) Tryz.underlying25 rfl ships_info ?_))
        go_ret
        exact ⟨by first | exact ⟨false, rfl, by simp; exact hno.out⟩ | exact .inl ⟨rfl, hno.out⟩, HB.out⟩
      · have HX := Lib.hid (show g.shots = h.shots ↔ Gm.Eq g h from ⟨fun e => ⟨e1, e2, hse.1 rfl, e⟩, fun e => e.2.2.2⟩)
        clear hse e1 e2 HE
        go_enter Tryz.func39, Tryz.ntmps39
        go_wp2_with (first | (refine wpList_load_part_g (by first | rfl | kernel_rfl | simp [Region.wanted, yielded]) (ty := 25) rfl rfl hB1.out _ (ships_part _ _) Tryz.underlying25 rfl ships_info ?_) | (refine wpList_load_part_g (by first | rfl | kernel_rfl | simp [Region.wanted, yielded]) (ty := 25) rfl rfl hB2.out _ (ships_part _ _) Tryz.underlying25 rfl ships_info ?_) | (go_at_call 78; ((with_reducible refine ((ce).out).mono ?_); rintro e w1 ⟨⟨v, rfl, hv⟩, hb1⟩; have HV := Lib.hid hv; have K1 := Lib.hid (HB.out.trans (hb1.mono HB.out.size)); clear hv hb1)))
        all_goals
          go_ret
          first
            | exact ⟨⟨v, rfl, HV.out.trans HX.out⟩, K1.out⟩
            | exact ⟨HV.out.trans HX.out, K1.out⟩
            | exact ⟨⟨_, rfl, by simp; exact HV.out.trans HX.out⟩, K1.out⟩
            | trace_state
    · have hq2 : (g.dice == h.dice) = false := by simpa using e2
      have hno := Lib.hid (show ¬ Gm.Eq g h from fun e => e2 e.2.1)
      clear hse e1 e2 HE ce
      go_enter Tryz.func39, Tryz.ntmps39
      go_wp2
      go_ret
      exact ⟨by first | exact ⟨false, rfl, by simp; exact hno.out⟩ | exact .inl ⟨rfl, hno.out⟩, HB.out⟩
  · have hq2 : (g.frame == h.frame) = false := by simpa using e1
    have hno := Lib.hid (show ¬ Gm.Eq g h from fun e => e1 e.1)
    clear hse e1 HE ce
    go_enter Tryz.func39, Tryz.ntmps39
    go_wp2
    go_ret
    exact ⟨by first | exact ⟨false, rfl, by simp; exact hno.out⟩ | exact .inl ⟨rfl, hno.out⟩, HB.out⟩

/-- Two states are alike in all parts. -/
def Im.Eq (g h : Gm.G) (r q : Ros.R) : Prop := Gm.Eq g h ∧ r.version = q.version ∧ ∀ k, k < 8 → r.peer k = q.peer k ∧ r.gen k = q.gen k
set_option maxRecDepth 100000 in
set_option maxHeartbeats 4000000 in
theorem foldsame_any (g h : Gm.G) (r q : Ros.R) (A B : Option Addr) (n m c d : Nat) (w : World) (hn : n = g.shots.length) (hm : m = h.shots.length) (hr : Lies w w.heap.size 6 A n (Gm.shotCells g.shots)) (hq : Lies w w.heap.size 6 B m (Gm.shotCells h.shots))
    (n63 : n ≤ maxLen) (m63 : m ≤ maxLen) :
    Calls Tryz.prog 17 #[.agg (Im.cells g (.slice A n c) r), .agg (Im.cells h (.slice B m d) q)] w fun e w' => (∃ v, e = .returned (.bool v) ∧ (v = true ↔ (Gm.Eq g h ∧ r.version = q.version ∧ ∀ k, k < 8 → r.peer k = q.peer k ∧ r.gen k = q.gen k))) ∧ Below w.heap.size w w' := by
  have P0 := Lib.hid ((Box.made w 35 (Im.cells g (.slice A n c) r)).alloc (.cells (Im.cells h (.slice B m d) q) 35))
  have Q0 := Lib.hid (Box.made_at (n := w.heap.size + 1) (w.alloc (.cells (Im.cells g (.slice A n c) r) 35)) 35 (Im.cells h (.slice B m d) q) (by simp))
  have K0 := Lib.hid (two_below' w (.cells (Im.cells g (.slice A n c) r) 35) (.cells (Im.cells h (.slice B m d) q) 35))
  have cg := Lib.hid (same_any g h A B n m c d _ hn hm ((hr.below K0.out).wider K0.out.size) ((hq.below K0.out).wider K0.out.size) n63 m63)
  have he := fun W => ros_eql r q W
  have HI := Lib.hid (show (r.version == q.version && Ros.seatsEq r q) = true ↔ (r.version = q.version ∧ ∀ k, k < 8 → r.peer k = q.peer k ∧ r.gen k = q.gen k) by rw [Bool.and_eq_true, Ros.seatsEq_iff]; simp)
  generalize (r.version == q.version && Ros.seatsEq r q) = E at he HI
  clear hr hq hn hm
  go_enter Tryz.func17, Tryz.ntmps17
  go_wp2_with (first | ((with_reducible refine im_load_game rfl rfl ?_); apply LoadIm.mk rfl; (focus first | (with_reducible exact P0.out) | (with_reducible exact Q0.out)); dsimp only) | ((with_reducible refine im_load_ros_g ?_ rfl ?_); (focus first | rfl | kernel_rfl | simp [Region.wanted, yielded]); apply LoadIm.mk rfl; (focus first | (with_reducible exact P1.out) | (with_reducible exact Q1.out)); dsimp only) | (go_at_call 39; ((with_reducible refine (cg.out).mono ?_); rintro e w1 ⟨⟨v, rfl, hv⟩, hb⟩; have P1 := Lib.hid (P0.out.below hb P0.out.lt); have Q1 := Lib.hid (Q0.out.below hb Q0.out.lt); have K1 := Lib.hid (K0.out.trans (hb.mono K0.out.size)); have HV := Lib.hid hv; clear hb hv; cases v)))
  all_goals
    go_ret
    first
      | exact ⟨⟨false, rfl, by simp only [Bool.false_eq_true, false_iff]; exact fun x => by have := HV.out.2 x.1; simp at this⟩, K1.out⟩
      | exact ⟨⟨E, rfl, HI.out.trans ⟨fun x => ⟨HV.out.1 (by first | trivial | rfl), x⟩, fun x => x.2⟩⟩, K1.out⟩
      | exact ⟨by simp; exact fun x => absurd (HV.out.2 x) (by simp), K1.out⟩
      | exact ⟨by simp; exact HI.out.trans ⟨fun x => ⟨HV.out.1 (by first | trivial | rfl), x⟩, fun x => x.2⟩, K1.out⟩
      | trace_state
end Go.Proofs.YtkkhdaeihnbilaaGreat
namespace Go.Proofs.YtkkhdaeihnbilaaGreat
open Go.RowKit Go.Shelf
set_option linter.unusedVariables false
set_option linter.unusedSimpArgs false


section
variable {ops : Array Oper} {Q : Exit → Act → World → Prop} {o : Oper} {rest : List Oper} {a : Act} {w : World} {x y : Operand}
theorem im_load_state_g (hw : Region.wanted o (yielded ops a.tmps) = true) (ho : o.op = .load 35 x) (h : LoadIm ops Q rest o.dst (a.eval x) 0 (fun g s r => Im.cells g s r) a w) : wpList Tryz.prog ops Q (o :: rest) a w := by
  obtain ⟨B, g, s, r, hx, hB, h⟩ := h
  refine wpList_load_part_g hw ho hx hB (Im.cells g s r).toList (fun j v hv => ?_) Tryz.underlying35 rfl (by rw [Array.length_toList, Im.cells_size]; exact state_info) (by rw [Array.toArray_toList]; exact h)
  rw [Nat.zero_add]
  simpa using hv
end
theorem en_built_evs (A : Option Addr) (n c : Nat) (evs : List En.Ev) : Tryz.prog.built 42 [(1, .slice A n c)] = some (En.cells ⟨0, evs, Fd.in0⟩ (.slice A n c)) := by kernel_rfl
theorem en_built_none : Tryz.prog.built 42 [] = some (En.cells ⟨0, [], Fd.in0⟩ (.slice none 0 0)) := by kernel_rfl
theorem en_built_fr (f : Int) : Tryz.prog.built 42 [(0, .int .i64 f)] = some (En.cells ⟨f, [], Fd.in0⟩ (.slice none 0 0)) := by kernel_rfl
theorem Lies.boxed4 {W : World} {S n size : Nat} {t : TypeId} {xs : List Value} (h : Box W S t xs.toArray) (hl : xs.length = n * size) : Lies W W.heap.size size (some ⟨S, 0, none⟩) n xs :=
  ⟨hl, fun _ => ⟨_, rfl, h.lt⟩, fun ad e _ j u hj => by
    injection e with e
    subst e
    rw [show (⟨S, 0, none⟩ : Addr).add j = ⟨S, j, none⟩ by unfold Addr.add; split <;> simp_all, h.cell]
    simpa using hj⟩
theorem Lies.none_ {W : World} {B size : Nat} {A : Option Addr} : Lies W B size A 0 [] := ⟨by simp, fun h => absurd rfl h, fun _ _ h => absurd rfl h⟩
/-- A literal slice of two entries. -/
theorem en_fill2 (e f : En.E) (A B : Option Addr) (n m c d : Nat) : Instr.fill (fun i => some (i * 26, 26)) ((Array.range (2 * 26)).map ((Value.agg En.zeroC).cells[· % (Value.agg En.zeroC).cells.size]!)) [(0, .agg (En.cells e (.slice A n c))), (1, .agg (En.cells f (.slice B m d)))] = some (En.cells e (.slice A n c) ++ En.cells f (.slice B m d)) := by kernel_rfl
theorem en_two (q r : En.S) : En.cells q.e q.sl ++ En.cells r.e r.sl = (En.sCells [q, r]).toArray := by
  unfold En.sCells
  rw [List.flatMap_cons, List.flatMap_cons, List.flatMap_nil, List.append_nil, ← En.S.cells_arr, ← En.S.cells_arr, List.append_toArray]
section
variable {ops : Array Oper} {rest : List Oper} {o : Oper} {a : Act} {w : World} {Q : Exit → Act → World → Prop} {x y : Operand} {dst : Option Tmp} {v u : Value}
def BuildEn2 (ops : Array Oper) (Q : Exit → Act → World → Prop) (rest : List Oper) (dst : Option Tmp) (v u : Value) (a : Act) (w : World) : Prop :=
  ∃ (q r : En.S), v = .agg (En.cells q.e q.sl) ∧ u = .agg (En.cells r.e r.sl) ∧ wpList Tryz.prog ops Q rest (a.put dst (.slice (some ⟨w.heap.size, 0, none⟩) 2 2)) (w.alloc (.cells (En.sCells [q, r]).toArray 42))
theorem BuildEn2.mk {q r : En.S} (hv : v = .agg (En.cells q.e q.sl)) (hu : u = .agg (En.cells r.e r.sl)) (h : wpList Tryz.prog ops Q rest (a.put dst (.slice (some ⟨w.heap.size, 0, none⟩) 2 2)) (w.alloc (.cells (En.sCells [q, r]).toArray 42))) : BuildEn2 ops Q rest dst v u a w := ⟨q, r, hv, hu, h⟩
theorem en_build2 (hgd : o.guard = none) (ho : o.op = .buildSlice 52 2 #[(0, x), (1, y)]) (h : BuildEn2 ops Q rest o.dst (a.eval x) (a.eval y) a w) : wpList Tryz.prog ops Q (o :: rest) a w := by
  obtain ⟨q, r, hv, hu, h⟩ := h
  refine wpList_plain hgd fun _ hK => ?_
  have hr : (Instr.buildSlice 52 2 #[(0, .agg (En.cells q.e q.sl)), (1, .agg (En.cells r.e r.sl))]).run Tryz.prog w = .ok (.slice (some ⟨w.heap.size, 0, none⟩) 2 2) (w.alloc (.cells (En.sCells [q, r]).toArray 42)) := by
    have h1 := en_info
    have h2 := en_zero
    cases hq : Tryz.prog.info? 42 with
    | none => rw [hq] at h1; cases h1
    | some ie =>
      rw [hq] at h1 h2
      have hs : ie.size = 26 := by simpa using h1
      have hz : ie.zero = some (.agg En.zeroC) := by simpa using h2
      exact run_buildSlice w _ _ 2 _ _ ie (.agg En.zeroC) Tryz.underlying52 hq hz (by rw [hs]; decide) (by rw [hs]; decide) (by rw [hs, ← en_two]; exact en_fill2 q.e r.e q.adr r.adr q.e.evs.length r.e.evs.length q.cap r.cap)
  unfold Oper.wp execOp
  simp only [ho, List.map_toArray, List.map_cons, List.map_nil, hv, hu, Sem.run_bind, hr, Result.andThen_ok, Sem.run_pure]
  exact hK _ _ h
end

def Fd.eJ (k : Nat) (p : Int) (ps : Nat → Gm.In) : En.E := ⟨0, [Fd.evJ k p], ps⟩
def Fd.eI (f : Int) : En.E := ⟨f, [], Fd.in0⟩
theorem en_built_J (A : Option Addr) (n c k : Nat) (p : Int) : Tryz.prog.built 42 [(1, .slice A n c)] = some (En.cells (Fd.eJ k p Fd.in0) (.slice A n c)) := en_built_evs A n c [Fd.evJ k p]
theorem en_built_I (f : Int) : Tryz.prog.built 42 [(0, .int .i64 f)] = some (En.cells (Fd.eI f) (.slice none 0 0)) := en_built_fr f
theorem en_built_I0 : Tryz.prog.built 42 [] = some (En.cells (Fd.eI 0) (.slice none 0 0)) := en_built_none
theorem told_set (s : Value) : (En.cells (Fd.eJ 0 2 Fd.in0) s).setIfInBounds 16 (.int .u8 1) = En.cells (Fd.eJ 0 2 (En.upd Fd.in0 4 ⟨0, 0, 1⟩)) s := rfl
theorem told_16 (s : Value) : (En.cells (Fd.eJ 0 2 Fd.in0) s)[16]? = some (.int .u8 0) := rfl
theorem in0_tyin : ∀ i, i < 8 → Gm.tyIn (Fd.in0 i) := fun i _ => by unfold Gm.tyIn Fd.in0; dsimp only; omega
theorem upd_tyin (j : Nat) (p : Gm.In) (hp : Gm.tyIn p) : ∀ i, i < 8 → Gm.tyIn (En.upd Fd.in0 j p i) := fun i hi => by
  unfold En.upd; split
  · exact hp
  · exact in0_tyin i hi
theorem start_new (d : Int) (hd : 0 ≤ d ∧ d ≤ 18446744073709551615) : Gm.ty (Gm.new d) := (Fd.start_fine hd).ty
set_option maxRecDepth 100000 in
set_option maxHeartbeats 4000000 in
theorem told10_any (w : World) :
    Calls Tryz.prog 11 #[] w fun e w' => e = .returned (.bool true) ∧ Below w.heap.size w w' := by
  have cs := fun X => Lib.hid (foldstart_any ⟨#[97]⟩ X (by decide))
  have hd := Dn.seed_bd (ByteArray.mk #[97]).data.toList
  generalize Dn.seed (ByteArray.mk #[97]).data.toList = d at cs hd
  have HD := Lib.hid hd
  have ty0 := Lib.hid (start_new d hd)
  clear hd
  go_enter Tryz.func11, Tryz.ntmps11
  go_upto_region 2 with (first | (go_at_call 20; ((with_reducible refine ((cs _).out).mono ?_); rintro x w1 ⟨rfl, hb⟩; have S1 := Lib.hid (Box.made w1 35 (Im.cells (Gm.new d) (.slice none 0 0) Ros.new)); have K1 := Lib.hid (hb.alloc hb.size (.cells (Im.cells (Gm.new d) (.slice none 0 0) Ros.new) 35)); clear hb)) | (with_reducible refine alloc_state rfl rfl ?_) | (with_reducible refine im_store_new rfl rfl rfl rfl Im.zero_size rfl ?_))
  generalize hW1 : w1.alloc (.cells (Im.cells (Gm.new d) (.slice none 0 0) Ros.new) 35) = W1 at S1 K1 ⊢
  generalize w1.heap.size = b1 at S1 ⊢
  have V2 := Lib.hid ((Box.made W1 61 #[.int .i64 1, .int .i64 0, .int .i64 1, .int .i64 2]).alloc (.cells (En.cells (Fd.eJ 0 2 Fd.in0) (.slice (some ⟨W1.heap.size, 0, none⟩) 1 1)) 42))
  have E2 := Lib.hid (Box.made_at (n := W1.heap.size + 1) (W1.alloc (.cells #[.int .i64 1, .int .i64 0, .int .i64 1, .int .i64 2] 61)) 42 (En.cells (Fd.eJ 0 2 Fd.in0) (.slice (some ⟨W1.heap.size, 0, none⟩) 1 1)) (by simp))
  have D2 := two_below' W1 (.cells #[.int .i64 1, .int .i64 0, .int .i64 1, .int .i64 2] 61) (.cells (En.cells (Fd.eJ 0 2 Fd.in0) (.slice (some ⟨W1.heap.size, 0, none⟩) 1 1)) 42)
  have S2 := Lib.hid (S1.out.below D2 S1.out.lt)
  have K2 := Lib.hid (K1.out.trans (D2.mono K1.out.size))
  have l2 := S1.out.lt
  have HB1 := Lib.hid K1.out.size
  clear D2 S1 K1 hW1
  go_upto_region 3 with (first | (refine wpList_build_is rfl (t := 42) (vs := [(1, .slice (some ⟨W1.heap.size, 0, none⟩) 1 1)]) rfl rfl (en_built_J _ _ _ 0 2) ?_) | (with_reducible refine alloc_en rfl rfl ?_) | (with_reducible refine en_store_new rfl rfl rfl rfl En.zeroC_size rfl ?_))
  simp only [World.size_alloc]
  generalize hW2 : (W1.alloc (.cells #[.int .i64 1, .int .i64 0, .int .i64 1, .int .i64 2] 61)).alloc (.cells (En.cells (Fd.eJ 0 2 Fd.in0) (.slice (some ⟨W1.heap.size, 0, none⟩) 1 1)) 42) = W2 at V2 E2 S2 K2 ⊢
  have HBE := Lib.hid (show w.heap.size ≤ W1.heap.size + 1 from Nat.le_succ_of_le HB1.out)
  generalize W1.heap.size + 1 = be at E2 HBE ⊢
  generalize W1.heap.size = bv at V2 E2 ⊢
  clear hW2 l2 HB1
  have T0 := Lib.hid (Fd.joined_fine (d := d) (k := 0) (p := 2) (ps := Fd.in0) HD.out (by decide) (by decide))
  have T0p := Lib.hid (Fd.joined_peer (d := d) (k := 0) (p := 2) (ps := Fd.in0))
  have ca1 := fun X (hV : Box X bv 61 #[.int .i64 1, .int .i64 0, .int .i64 1, .int .i64 2]) => Lib.hid (show Calls Tryz.prog 12 #[.agg (Im.cells (Gm.new d) (.slice none 0 0) Ros.new), .agg (En.cells (Fd.eJ 0 2 Fd.in0) (.slice (some ⟨bv, 0, none⟩) 1 1))] X (SOut (Fd.joined d 0 2 Fd.in0).g (Fd.joined d 0 2 Fd.in0).r 0 X) from
    foldapply_some (Fd.joined d 0 2 Fd.in0) (Fd.start d) (Fd.eJ 0 2 Fd.in0) none (some ⟨bv, 0, none⟩) 0 0 1 1 X ty0.out (by decide) rfl Lies.none_ rfl (by decide) (Lies.boxed4 (n := 1) hV rfl) in0_tyin (Fd.join_one HD.out (by decide) (by decide) (fun i hi => Fd.zero_ok rfl) (fun i hi _ => rfl)))
  have ca2 := fun X A c (hV : Box X bv 61 #[.int .i64 1, .int .i64 0, .int .i64 1, .int .i64 2]) hL => Lib.hid (show Calls Tryz.prog 12 #[.agg (Im.cells (Fd.joined d 0 2 Fd.in0).g (.slice A (Fd.joined d 0 2 Fd.in0).g.shots.length c) (Fd.joined d 0 2 Fd.in0).r), .agg (En.cells (Fd.eJ 0 2 Fd.in0) (.slice (some ⟨bv, 0, none⟩) 1 1))] X (SOut (Fd.joined d 0 2 Fd.in0).g (Fd.joined d 0 2 Fd.in0).r 1 X) from
    foldapply_none (Fd.joined d 0 2 Fd.in0) (Fd.eJ 0 2 Fd.in0) A (some ⟨bv, 0, none⟩) _ c 1 1 X T0.out.1.ty T0.out.1.few rfl hL rfl (by decide) (Lies.boxed4 (n := 1) hV rfl) in0_tyin (Fd.joined_late HD.out (by decide) (by decide) rfl))
  have ca3 := fun X (hV : Box X bv 61 #[.int .i64 1, .int .i64 0, .int .i64 1, .int .i64 2]) => Lib.hid (show Calls Tryz.prog 12 #[.agg (Im.cells (Gm.new d) (.slice none 0 0) Ros.new), .agg (En.cells (Fd.eJ 0 2 (En.upd Fd.in0 4 ⟨0, 0, 1⟩)) (.slice (some ⟨bv, 0, none⟩) 1 1))] X (SOut (Gm.new d) Ros.new 1 X) from
    foldapply_none (Fd.start d) (Fd.eJ 0 2 (En.upd Fd.in0 4 ⟨0, 0, 1⟩)) none (some ⟨bv, 0, none⟩) 0 0 1 1 X ty0.out (by decide) rfl Lies.none_ rfl (by decide) (Lies.boxed4 (n := 1) hV rfl) (upd_tyin 4 _ (by unfold Gm.tyIn; dsimp only; omega)) (Fd.join_busy (j := 4) (by decide) (by decide) (by decide) (by decide) rfl))
  have t_on : Hid (∀ s, (Im.cells (Fd.joined d 0 2 Fd.in0).g s (Fd.joined d 0 2 Fd.in0).r)[2]? = some (.bool true)) := Lib.hid fun s => (Im.cells_ship _ s _ 0 0 (by decide) (by decide)).trans (by show some (Value.bool ((Fd.joined d 0 2 Fd.in0).g.ship 0).on) = _; rw [T0.out.2.2])
  have t_fr : Hid (∀ s, (Im.cells (Fd.joined d 0 2 Fd.in0).g s (Fd.joined d 0 2 Fd.in0).r)[0]? = some (.int .i64 1)) := Lib.hid fun s => ((Im.cells_g _ s _ 0 (by decide)).trans (Gm.cells_0 _ s)).trans (by rw [T0.out.2.1])
  have t_pe : Hid (∀ s, (Im.cells (Fd.joined d 0 2 Fd.in0).g s (Fd.joined d 0 2 Fd.in0).r)[60]? = some (.int .i64 2)) := Lib.hid fun s => (Im.cells_peer _ s _ 0 (by decide)).trans (by rw [T0p.out])
  generalize Fd.joined d 0 2 Fd.in0 = T at ca1 ca2 t_on t_fr t_pe
  clear T0 T0p
  go_upto_region 4 with (first | ((with_reducible refine im_load_state rfl rfl ?_); apply LoadIm.mk rfl; (focus first | (with_reducible exact S2.out)); dsimp only) | ((with_reducible refine en_load rfl rfl ?_); apply LoadEn.mk rfl; (focus first | (with_reducible exact E2.out)); dsimp only) | (go_at_call 12; ((with_reducible refine ((ca1 _ V2.out).out).mono ?_); rintro x w3 ⟨A3, cA3, rfl, hL, hb⟩; have S3 := Lib.hid ((S2.out.below hb S2.out.lt).alloc (.cells (Im.cells T.g (.slice A3 T.g.shots.length cA3) T.r) 35)); have E3 := Lib.hid ((E2.out.below hb E2.out.lt).alloc (.cells (Im.cells T.g (.slice A3 T.g.shots.length cA3) T.r) 35)); have V3 := Lib.hid ((V2.out.below hb V2.out.lt).alloc (.cells (Im.cells T.g (.slice A3 T.g.shots.length cA3) T.r) 35)); have K3 := Lib.hid ((K2.out.trans (hb.mono K2.out.size)).alloc (Nat.le_trans K2.out.size hb.size) (.cells (Im.cells T.g (.slice A3 T.g.shots.length cA3) T.r) 35)); have B3 := Lib.hid (Box.made w3 35 (Im.cells T.g (.slice A3 T.g.shots.length cA3) T.r)); have L3 := Lib.hid (hL.call (one_below w3 (.cells (Im.cells T.g (.slice A3 T.g.shots.length cA3) T.r) 35))); clear hb hL)) | (with_reducible refine alloc_state rfl rfl ?_) | (with_reducible refine im_store_new rfl rfl rfl rfl Im.zero_size rfl ?_))
  generalize hWn : w3.alloc (.cells (Im.cells T.g (.slice A3 T.g.shots.length cA3) T.r) 35) = W3 at S3 E3 V3 L3 B3 K3 ⊢
  generalize w3.heap.size = b3 at B3 ⊢
  clear hWn
  clear S2 E2 V2 K2 ca1
  go_upto_region 5 with (first | ((with_reducible refine im_load_state rfl rfl ?_); apply LoadIm.mk rfl; (focus first | (with_reducible exact B3.out)); dsimp only) | ((with_reducible refine en_load rfl rfl ?_); apply LoadEn.mk rfl; (focus first | (with_reducible exact E3.out)); dsimp only) | (go_at_call 12; ((with_reducible refine ((ca2 _ _ _ V3.out L3.out).out).mono ?_); rintro x w3 ⟨A4, cA4, rfl, hL, hb⟩; have S4 := Lib.hid ((S3.out.below hb S3.out.lt).alloc (.cells (Im.cells T.g (.slice A4 T.g.shots.length cA4) T.r) 35)); have E4 := Lib.hid ((E3.out.below hb E3.out.lt).alloc (.cells (Im.cells T.g (.slice A4 T.g.shots.length cA4) T.r) 35)); have V4 := Lib.hid ((V3.out.below hb V3.out.lt).alloc (.cells (Im.cells T.g (.slice A4 T.g.shots.length cA4) T.r) 35)); have T4 := Lib.hid ((B3.out.below hb B3.out.lt).alloc (.cells (Im.cells T.g (.slice A4 T.g.shots.length cA4) T.r) 35)); have K4 := Lib.hid ((K3.out.trans (hb.mono K3.out.size)).alloc (Nat.le_trans K3.out.size hb.size) (.cells (Im.cells T.g (.slice A4 T.g.shots.length cA4) T.r) 35)); have B4 := Lib.hid (Box.made w3 35 (Im.cells T.g (.slice A4 T.g.shots.length cA4) T.r)); have L4 := Lib.hid (hL.call (one_below w3 (.cells (Im.cells T.g (.slice A4 T.g.shots.length cA4) T.r) 35))); clear hb hL)) | (with_reducible refine alloc_state rfl rfl ?_) | (with_reducible refine im_store_new rfl rfl rfl rfl Im.zero_size rfl ?_))
  generalize hWn : w3.alloc (.cells (Im.cells T.g (.slice A4 T.g.shots.length cA4) T.r) 35) = W4 at S4 E4 V4 T4 L4 B4 K4 ⊢
  generalize w3.heap.size = b4 at B4 ⊢
  clear hWn
  clear S3 E3 V3 K3 ca2 B3 L3 L4 B4
  have e4 := (E4.out.cell 16).trans (told_16 _)
  have f4 := E4.out.free 16
  have E5 := Lib.hid (show Box (W4.setCell ⟨be, 16, none⟩ (.int .u8 1)) be 42 (En.cells (Fd.eJ 0 2 (En.upd Fd.in0 4 ⟨0, 0, 1⟩)) (.slice (some ⟨bv, 0, none⟩) 1 1)) from told_set (.slice (some ⟨bv, 0, none⟩) 1 1) ▸ E4.out.put 16 (.int .u8 1))
  have S5 := Lib.hid (S4.out.far (p := ⟨be, 16, none⟩) (Box.apart S4.out E4.out (by decide)) (.int .u8 1))
  have V5 := Lib.hid (V4.out.far (p := ⟨be, 16, none⟩) (Box.apart V4.out E4.out (by decide)) (.int .u8 1))
  have T5 := Lib.hid (T4.out.far (p := ⟨be, 16, none⟩) (Box.apart T4.out E4.out (by decide)) (.int .u8 1))
  have hbe : Hid (w.heap.size ≤ be) := HBE
  have K5 := Lib.hid (K4.out.setCell (p := ⟨be, 16, none⟩) hbe.out (.int .u8 1))
  go_upto_region 6 with fail
  generalize hW5 : W4.setCell ⟨be, 16, none⟩ (.int .u8 1) = W5 at E5 S5 V5 T5 K5 ⊢
  clear hW5 e4 f4 E4 S4 V4 T4 K4
  go_upto_region 7 with (first | ((with_reducible refine im_load_state rfl rfl ?_); apply LoadIm.mk rfl; (focus first | (with_reducible exact S5.out)); dsimp only) | ((with_reducible refine en_load rfl rfl ?_); apply LoadEn.mk rfl; (focus first | (with_reducible exact E5.out)); dsimp only) | (go_at_call 12; ((with_reducible refine ((ca3 _ V5.out).out).mono ?_); rintro x w3 ⟨A6, cA6, rfl, hL, hb⟩; have S6 := Lib.hid ((S5.out.below hb S5.out.lt).alloc (.cells (Im.cells (Gm.new d) (.slice A6 (Gm.new d).shots.length cA6) Ros.new) 35)); have T6 := Lib.hid ((T5.out.below hb T5.out.lt).alloc (.cells (Im.cells (Gm.new d) (.slice A6 (Gm.new d).shots.length cA6) Ros.new) 35)); have K6 := Lib.hid ((K5.out.trans (hb.mono K5.out.size)).alloc (Nat.le_trans K5.out.size hb.size) (.cells (Im.cells (Gm.new d) (.slice A6 (Gm.new d).shots.length cA6) Ros.new) 35)); have B6 := Lib.hid (Box.made w3 35 (Im.cells (Gm.new d) (.slice A6 (Gm.new d).shots.length cA6) Ros.new)); have L6 := Lib.hid (hL.call (one_below w3 (.cells (Im.cells (Gm.new d) (.slice A6 (Gm.new d).shots.length cA6) Ros.new) 35))); clear hb hL)) | (with_reducible refine alloc_state rfl rfl ?_) | (with_reducible refine im_store_new rfl rfl rfl rfl Im.zero_size rfl ?_))
  generalize hWn : w3.alloc (.cells (Im.cells (Gm.new d) (.slice A6 (Gm.new d).shots.length cA6) Ros.new) 35) = W6 at S6 T6 L6 B6 K6 ⊢
  generalize w3.heap.size = b6 at B6 ⊢
  clear hWn
  clear S5 V5 T5 K5 E5 ca3
  have hrun := Fd.idle_run HD.out
  have cr := fun X (hB : Box X W6.heap.size 42 (En.sCells [⟨Fd.eI 0, none, 0⟩, ⟨Fd.eI 1, none, 0⟩]).toArray) => Lib.hid (show Calls Tryz.prog 19 #[.agg (Im.cells (Gm.new d) (.slice none 0 0) Ros.new), .slice (some ⟨W6.heap.size, 0, none⟩) 2 2] X (SOut (Fd.idle2 d).g (Fd.idle2 d).r 0 X) from
    foldrun_some (Fd.idle2 d) (Fd.start d) [⟨Fd.eI 0, none, 0⟩, ⟨Fd.eI 1, none, 0⟩] none (some ⟨W6.heap.size, 0, none⟩) 0 0 2 2 X (Fd.start_fine HD.out) rfl Lies.none_ (by decide) ⟨Lies.boxed4 (n := 2) hB rfl, fun q hq => (by rcases List.mem_cons.1 hq with rfl | hq; exact Lies.none_; rcases List.mem_cons.1 hq with rfl | hq; exact Lies.none_; cases hq), fun q hq => (by rcases List.mem_cons.1 hq with rfl | hq; exact Nat.zero_le _; rcases List.mem_cons.1 hq with rfl | hq; exact Nat.zero_le _; cases hq)⟩ (fun q hq => (by rcases List.mem_cons.1 hq with rfl | hq; exact in0_tyin; rcases List.mem_cons.1 hq with rfl | hq; exact in0_tyin; cases hq)) hrun.1)
  have v_fr : Hid (∀ s, (Im.cells (Fd.idle2 d).g s (Fd.idle2 d).r)[0]? = some (.int .i64 2)) := Lib.hid fun s => ((Im.cells_g _ s _ 0 (by decide)).trans (Gm.cells_0 _ s)).trans (by rw [hrun.2])
  have M7 := Lib.hid (Box.made W6 42 (En.sCells [⟨Fd.eI 0, none, 0⟩, ⟨Fd.eI 1, none, 0⟩]).toArray)
  have D7 := one_below W6 (.cells (En.sCells [⟨Fd.eI 0, none, 0⟩, ⟨Fd.eI 1, none, 0⟩]).toArray 42)
  have S7 := Lib.hid (S6.out.alloc (.cells (En.sCells [⟨Fd.eI 0, none, 0⟩, ⟨Fd.eI 1, none, 0⟩]).toArray 42))
  have T7 := Lib.hid (T6.out.alloc (.cells (En.sCells [⟨Fd.eI 0, none, 0⟩, ⟨Fd.eI 1, none, 0⟩]).toArray 42))
  have U7 := Lib.hid (B6.out.alloc (.cells (En.sCells [⟨Fd.eI 0, none, 0⟩, ⟨Fd.eI 1, none, 0⟩]).toArray 42))
  have K7 := Lib.hid (K6.out.trans (D7.mono K6.out.size))
  generalize Fd.idle2 d = V at cr v_fr
  clear hrun D7 K6
  go_upto_region 8 with (first | ((with_reducible refine im_load_state rfl rfl ?_); apply LoadIm.mk rfl; (focus first | (with_reducible exact S6.out) | (with_reducible exact S7.out)); dsimp only) | (refine wpList_build_is rfl (t := 42) (vs := []) rfl rfl (en_built_I0) ?_) | (refine wpList_build_is rfl (t := 42) (vs := [(0, .int .i64 1)]) rfl rfl (en_built_I 1) ?_) | ((with_reducible refine en_build2 rfl rfl ?_); (refine BuildEn2.mk (q := ⟨Fd.eI 0, none, 0⟩) (r := ⟨Fd.eI 1, none, 0⟩) rfl rfl ?_)) | (go_at_call 19; ((with_reducible refine ((cr _ M7.out).out).mono ?_); rintro x w3 ⟨A8, cA8, rfl, hL, hb⟩; have S8 := Lib.hid ((S7.out.below hb S7.out.lt).alloc (.cells (Im.cells V.g (.slice A8 V.g.shots.length cA8) V.r) 35)); have T8 := Lib.hid ((T7.out.below hb T7.out.lt).alloc (.cells (Im.cells V.g (.slice A8 V.g.shots.length cA8) V.r) 35)); have U8 := Lib.hid ((U7.out.below hb U7.out.lt).alloc (.cells (Im.cells V.g (.slice A8 V.g.shots.length cA8) V.r) 35)); have K8 := Lib.hid ((K7.out.trans (hb.mono K7.out.size)).alloc (Nat.le_trans K7.out.size hb.size) (.cells (Im.cells V.g (.slice A8 V.g.shots.length cA8) V.r) 35)); have B8 := Lib.hid (Box.made w3 35 (Im.cells V.g (.slice A8 V.g.shots.length cA8) V.r)); have L8 := Lib.hid (hL.call (one_below w3 (.cells (Im.cells V.g (.slice A8 V.g.shots.length cA8) V.r) 35))); clear hb hL)) | (with_reducible refine alloc_state rfl rfl ?_) | (with_reducible refine im_store_new rfl rfl rfl rfl Im.zero_size rfl ?_))
  generalize hWn : w3.alloc (.cells (Im.cells V.g (.slice A8 V.g.shots.length cA8) V.r) 35) = W8 at S8 T8 U8 L8 B8 K8 ⊢
  generalize w3.heap.size = b8 at B8 ⊢
  clear hWn
  clear S7 T7 U7 K7 M7 cr L8
  have t1 := (T8.out.cell 2).trans (t_on.out _)
  have t2 := (T8.out.cell 0).trans (t_fr.out _)
  have t3 := (T8.out.cell 60).trans (t_pe.out _)
  have v1 := fun X (h : Below W8.heap.size W8 X) => ((B8.out.below h B8.out.lt).cell 0).trans (v_fr.out _)
  have csm := fun X A c n (hn : n = (Gm.new d).shots.length) => Lib.hid (foldsame_any (Gm.new d) (Gm.new d) Ros.new Ros.new A none n 0 c 0 X hn rfl (by subst hn; exact Lies.none_) Lies.none_ (by subst hn; exact Nat.zero_le _) (Nat.zero_le _))
  have cmy := fun X => Lib.hid (foldmay_any (Gm.new d) Ros.new none 0 0 X ty0.out (Nat.zero_le _) rfl Lies.none_)
  have OK := Lib.hid (Fd.start_fine HD.out).ok
  go_wp2_with (first | ((with_reducible refine im_load_state_g ?_ rfl ?_); (focus first | rfl | kernel_rfl | simp [Region.wanted, yielded]); apply LoadIm.mk rfl; (focus first | (with_reducible exact S8.out) | (with_reducible exact U8.out) | (with_reducible exact S9.out)); dsimp only) | (go_at_call 17; ((with_reducible refine ((csm _ _ _ _ rfl).out).mono ?_); rintro x w9 ⟨⟨v, rfl, hv⟩, hb⟩; obtain rfl : v = true := hv.2 ⟨Gm.Eq.refl _, rfl, fun _ _ => ⟨rfl, rfl⟩⟩; have S9 := Lib.hid (S8.out.below hb S8.out.lt); have v9 := v1 _ hb; have K9 := Lib.hid (K8.out.trans (hb.mono K8.out.size)); clear hb hv)) | (go_at_call 14; ((with_reducible refine ((cmy _).out).mono ?_); rintro x w10 ⟨⟨v, rfl, hv⟩, hb⟩; obtain rfl : v = true := hv.2 OK.out; have K10 := Lib.hid (K9.out.trans (hb.mono K9.out.size)); clear hb hv)))
  go_ret
  exact ⟨rfl, K10.out⟩
end Go.Proofs.YtkkhdaeihnbilaaGreat
namespace Go.Proofs.YtkkhdaeihnbilaaGreat
open Go Go.RowKit Go.Shelf
set_option linter.unusedVariables false
set_option linter.unusedSimpArgs false

/-- A row that lies in a block of its own type. -/
structure LT (w : World) (t : TypeId) (size : Nat) (A : Option Addr) (n : Nat) (xs : List Value) : Prop where
  lies : Lies w w.heap.size size A n xs
  typed : Typed w t A
section
variable {w w' : World} {t : TypeId} {size n : Nat} {A : Option Addr} {xs : List Value}
theorem LT.nil : LT w t size none 0 [] := ⟨⟨by simp, fun h => absurd rfl h, fun _ _ h => absurd rfl h⟩, Typed.none⟩
theorem LT.call (h : LT w t size A n xs) (hb : Below w.heap.size w w') : LT w' t size A n xs := ⟨h.lies.call hb, h.typed.call hb⟩
theorem LT.stays (h : LT w t size A n xs) (hs : w.heap.size ≤ w'.heap.size) (hk : ∀ ad, A = some ad → w'.heap[ad.block]? = w.heap[ad.block]?) : LT w' t size A n xs :=
  ⟨⟨h.lies.len, fun hn => by obtain ⟨ad, e, hb⟩ := h.lies.start hn; exact ⟨ad, e, Nat.lt_of_lt_of_le hb hs⟩, fun ad e hn j u hu => by
    rw [World.cell?_of_block (w := w) (by rw [add_block]; exact hk ad e)]
    exact h.lies.cell ad e hn j u hu⟩, ⟨fun ad e => by obtain ⟨cs, fz, h1⟩ := h.typed.is ad e; exact ⟨cs, fz, (hk ad e).trans h1⟩⟩⟩
theorem LT.row {B : Nat} {t' : TypeId} {old : Array Value} (h : LT w t size A n xs) (hB : Box w B t' old) (hne : t ≠ t') (cs : Array Value) : LT (w.setRow B cs) t size A n xs :=
  h.stays (by rw [setRow_size]; exact Nat.le_refl _) fun ad e => setRow_other w B _ cs fun eb => by
    obtain ⟨cs1, fz, h1⟩ := h.typed.is ad e
    rw [eb, hB.is] at h1
    injection h1 with h1
    injection h1 with _ ht _
    exact hne ht.symm
theorem LT.grown {base size' n' : Nat} {e : TypeId} {v : Value} {ys : List Value} (h : LT w t size A n xs) (ho : w.ownsRow base e size' v n' ys) (hne : t ≠ e) (hg : w.grownBy w' v.ownBlock) : LT w' t size A n xs :=
  h.stays hg.size fun ad ea => by
    obtain ⟨cs1, fz, h1⟩ := h.typed.is ad ea
    refine hg.block ad.block (Array.getElem?_eq_some_iff.1 h1).1 fun hr => ?_
    obtain ⟨_, ⟨rfl, _⟩ | ⟨g, cap, cur, rfl, _, hgg, _⟩⟩ := ho
    · cases hr
    · have e2 : ad.block = g := by injection hr
      rw [e2, hgg] at h1
      injection h1 with h1
      injection h1 with _ ht _
      exact hne ht.symm
theorem LT.boxed {S : Nat} (h : Box w S t xs.toArray) (hl : xs.length = n * size) : LT w t size (some ⟨S, 0, none⟩) n xs :=
  ⟨Lies.boxed4 h hl, ⟨fun ad e => by injection e with e; subst e; exact ⟨_, _, h.is⟩⟩⟩
end

section
variable {ops : Array Oper} {rest : List Oper} {o : Oper} {a : Act} {w : World} {Q : Exit → Act → World → Prop} {x : Operand}
def BuildEn1 (ops : Array Oper) (Q : Exit → Act → World → Prop) (rest : List Oper) (dst : Option Tmp) (v : Value) (a : Act) (w : World) : Prop :=
  ∃ q : En.S, v = .agg (En.cells q.e q.sl) ∧ wpList Tryz.prog ops Q rest (a.put dst (.slice (some ⟨w.heap.size, 0, none⟩) 1 1)) (w.alloc (.cells (En.sCells [q]).toArray 42))
theorem BuildEn1.mk {dst : Option Tmp} {v : Value} {q : En.S} (hv : v = .agg (En.cells q.e q.sl)) (h : wpList Tryz.prog ops Q rest (a.put dst (.slice (some ⟨w.heap.size, 0, none⟩) 1 1)) (w.alloc (.cells (En.sCells [q]).toArray 42))) : BuildEn1 ops Q rest dst v a w := ⟨q, hv, h⟩
theorem en_one_cells (q : En.S) : (En.sCells [q]).toArray = En.cells q.e q.sl := by
  unfold En.sCells
  rw [List.flatMap_cons, List.flatMap_nil, List.append_nil, En.S.cells_arr]
theorem en_fill1 (e : En.E) (A : Option Addr) (n c : Nat) : Instr.fill (fun i => some (i * 26, 26)) ((Array.range (1 * 26)).map ((Value.agg En.zeroC).cells[· % (Value.agg En.zeroC).cells.size]!)) [(0, .agg (En.cells e (.slice A n c)))] = some (En.cells e (.slice A n c)) := by kernel_rfl
theorem en_build1 (hgd : o.guard = none) (ho : o.op = .buildSlice 52 1 #[(0, x)]) (h : BuildEn1 ops Q rest o.dst (a.eval x) a w) : wpList Tryz.prog ops Q (o :: rest) a w := by
  obtain ⟨q, hv, h⟩ := h
  refine wpList_plain hgd fun _ hK => ?_
  have hr : (Instr.buildSlice 52 1 #[(0, .agg (En.cells q.e q.sl))]).run Tryz.prog w = .ok (.slice (some ⟨w.heap.size, 0, none⟩) 1 1) (w.alloc (.cells (En.sCells [q]).toArray 42)) := by
    have h1 := en_info
    have h2 := en_zero
    cases hq : Tryz.prog.info? 42 with
    | none => rw [hq] at h1; cases h1
    | some ie =>
      rw [hq] at h1 h2
      have hs : ie.size = 26 := by simpa using h1
      have hz : ie.zero = some (.agg En.zeroC) := by simpa using h2
      exact run_buildSlice w _ _ 1 _ _ ie (.agg En.zeroC) Tryz.underlying52 hq hz (by rw [hs]; decide) (by rw [hs]; decide) (by rw [hs, en_one_cells]; exact en_fill1 q.e q.adr q.e.evs.length q.cap)
  unfold Oper.wp execOp
  simp only [ho, List.map_toArray, List.map_cons, List.map_nil, hv, Sem.run_bind, hr, Result.andThen_ok, Sem.run_pure]
  exact hK _ _ h
end
theorem en_parts : ∃ i, Tryz.prog.info? 42 = some i ∧ i.zero = some (.agg En.zeroC) ∧ i.size = 26 ∧ i.bytes = 56 := by
  have h1 := en_info
  have h2 := en_zero
  have h3 : (Tryz.prog.info? 42).map (·.bytes) = some 56 := by kernel_rfl
  cases hq : Tryz.prog.info? 42 with
  | none => rw [hq] at h1; cases h1
  | some ie =>
    rw [hq] at h1 h2 h3
    exact ⟨ie, rfl, by simpa using h2, by simpa using h1, by simpa using h3⟩
theorem En.sCells_snoc (l : List En.S) (q : En.S) : En.sCells (l ++ [q]) = En.sCells l ++ En.sCells [q] := by unfold En.sCells; rw [List.flatMap_append]

/-- What lies there while a log is made: the state u behind the entries that are out. -/
structure Mk (w : World) (bs : Nat) (d : Int) (u : Fd.S) (A : Option Addr) (c : Nat) (AO : Option Addr) (cO : Nat) (out : List En.S) (W : World) : Prop where
  st : Box W bs 35 (Im.cells u.g (.slice A u.g.shots.length c) u.r)
  sh : LT W 90 6 A u.g.shots.length (Gm.shotCells u.g.shots)
  own : W.ownsRow w.heap.size 42 26 (.slice AO out.length cO) out.length (En.sCells out)
  ev : ∀ q ∈ out, LT W 61 4 q.adr q.e.evs.length (En.evCells q.e.evs)
  few : ∀ q ∈ out, q.e.evs.length ≤ maxLen
  ty : ∀ q ∈ out, ∀ i, i < 8 → Gm.tyIn (q.e.inp i)
  run : Fd.run (Fd.start d) (Fd.es out) = some u
  far : w.heap.size ≤ bs
  below : Below w.heap.size w W
section
variable {w W W' : World} {bs : Nat} {d : Int} {u v : Fd.S} {A A2 AO : Option Addr} {c c2 cO : Nat} {out : List En.S} {q : En.S}
theorem Mk.call (h : Mk w bs d u A c AO cO out W) (hb : Below W.heap.size W W') : Mk w bs d u A c AO cO out W' :=
  ⟨h.st.below hb h.st.lt, h.sh.call hb, own_below h.own hb (Nat.le_refl _), fun q hq => (h.ev q hq).call hb, h.few, h.ty, h.run, h.far, h.below.trans (hb.mono h.below.size)⟩
theorem Mk.lies (h : Mk w bs d u A c AO cO out W) : LiesS W W.heap.size AO out.length out := ⟨Lies.owned h.own, fun q hq => (h.ev q hq).lies, h.few⟩
/-- The entry of a round is done, and put behind the others. -/
theorem Mk.next (h : Mk w bs d u A c AO cO out W) (hv : Fd.apply u q.e = some v) (hL : LT W 90 6 A2 v.g.shots.length (Gm.shotCells v.g.shots)) (hE : LT W 61 4 q.adr q.e.evs.length (En.evCells q.e.evs)) (hf : q.e.evs.length ≤ maxLen) (ht : ∀ i, i < 8 → Gm.tyIn (q.e.inp i)) :
    ((W.setRow bs (Im.cells v.g (.slice A2 v.g.shots.length c2) v.r)).alloc (.cells (En.sCells [q]).toArray 42)).ownsRow w.heap.size 42 26 (.slice AO out.length cO) out.length (En.sCells out) ∧
    ∀ A' c' w', w'.ownsRow w.heap.size 42 26 (.slice A' (out.length + 1) c') (out.length + 1) (En.sCells out ++ En.sCells [q]) → ((W.setRow bs (Im.cells v.g (.slice A2 v.g.shots.length c2) v.r)).alloc (.cells (En.sCells [q]).toArray 42)).grownBy w' (Value.slice AO out.length cO).ownBlock →
      Mk w bs d v A2 c2 A' c' (out ++ [q]) w' := by
  obtain ⟨W1, hW1⟩ : ∃ W1, W1 = W.setRow bs (Im.cells v.g (.slice A2 v.g.shots.length c2) v.r) := ⟨_, rfl⟩
  rw [← hW1]
  have hB := h.st
  have b1 : Box W1 bs 35 (Im.cells v.g (.slice A2 v.g.shots.length c2) v.r) := by rw [hW1]; exact hB.row _
  have s1 : LT W1 90 6 A2 v.g.shots.length (Gm.shotCells v.g.shots) := by rw [hW1]; exact hL.row hB (by decide) _
  have e1 : ∀ q' ∈ out ++ [q], LT W1 61 4 q'.adr q'.e.evs.length (En.evCells q'.e.evs) := fun q' hq' => by
    rw [hW1]
    rcases List.mem_append.1 hq' with hq1 | hq1
    · exact (h.ev q' hq1).row hB (by decide) _
    · obtain rfl : q' = q := by simpa using hq1
      exact hE.row hB (by decide) _
  have o1 : W1.ownsRow w.heap.size 42 26 (.slice AO out.length cO) out.length (En.sCells out) := by
    rw [hW1]
    exact own_setRow h.own (hB.unowned h.own (by decide)) _
  have k1 : Below w.heap.size w W1 := by rw [hW1]; exact Below.setRow' h.below h.far _
  obtain ⟨X, hX⟩ : ∃ X, X = W1.alloc (.cells (En.sCells [q]).toArray 42) := ⟨_, rfl⟩
  rw [← hX]
  have hb : Below W1.heap.size W1 X := by rw [hX]; exact one_below _ _
  have o2 := own_below o1 hb (Nat.le_refl _)
  have b2 := b1.below hb b1.lt
  have k2 := k1.trans (hb.mono k1.size)
  refine ⟨o2, fun A' c' w' ho hg => ?_⟩
  have hlen : (out ++ [q]).length = out.length + 1 := by simp
  refine ⟨b2.grown hg (b2.unowned o2 (by decide)), (s1.call hb).grown o2 (by decide) hg, ?_, fun q' hq' => ((e1 q' hq').call hb).grown o2 (by decide) hg, fun q' hq' => ?_, fun q' hq' => ?_, ?_, h.far, ?_⟩
  · rw [hlen, En.sCells_snoc]; exact ho
  · rcases List.mem_append.1 hq' with hq1 | hq1
    · exact h.few q' hq1
    · obtain rfl : q' = q := by simpa using hq1
      exact hf
  · rcases List.mem_append.1 hq' with hq1 | hq1
    · exact h.ty q' hq1
    · obtain rfl : q' = q := by simpa using hq1
      exact ht
  · show Fd.run (Fd.start d) (Fd.es (out ++ [q])) = some v
    unfold Fd.es
    rw [List.map_append, List.map_cons, List.map_nil, Fd.run_append]
    have := h.run
    unfold Fd.es at this
    rw [this, Option.bind_some, Fd.run_one]
    exact hv
  · refine k2.grown hg k2.size fun k hk => ?_
    obtain ⟨_, ⟨e, _⟩ | ⟨g, cap, cur, e, hbg, _⟩⟩ := o2
    · rw [e] at hk; cases hk
    · rw [e] at hk
      injection hk with hk
      have : g = k := hk
      omega
end
end Go.Proofs.YtkkhdaeihnbilaaGreat
namespace Go.Proofs.YtkkhdaeihnbilaaGreat
open Go Go.RowKit Go.Shelf
set_option linter.unusedVariables false
set_option linter.unusedSimpArgs false

namespace Fd
/-- The best slot among the first k. -/
def freeK (r : Ros.R) : Nat → Int
  | 0 => -1
  | k + 1 => if r.peer k < 0 ∧ (freeK r k < 0 ∨ r.gen k < r.gen (freeK r k).toNat) then k else freeK r k
def freeV (r : Ros.R) : Int := if 0 ≤ freeK r 8 ∧ r.gen (freeK r 8).toNat = 60000 then -1 else freeK r 8
theorem freeK_is (r : Ros.R) (k : Nat) : freeK r k = -1 ∨ ∃ q : Nat, q < k ∧ freeK r k = q := by
  induction k with
  | zero => exact .inl rfl
  | succ k ih =>
    unfold freeK
    split
    · exact .inr ⟨k, Nat.lt_succ_self k, rfl⟩
    · rcases ih with h | ⟨q, hq, h⟩
      · exact .inl h
      · exact .inr ⟨q, by omega, h⟩
theorem freeV_is (r : Ros.R) : freeV r = -1 ∨ ∃ k : Nat, k < 8 ∧ freeV r = k ∧ r.gen k ≠ 60000 := by
  unfold freeV
  split
  · exact .inl rfl
  · rename_i h
    rcases freeK_is r 8 with h1 | ⟨q, hq, h1⟩
    · exact .inl h1
    · refine .inr ⟨q, hq, h1, fun hg => h ?_⟩
      rw [h1]
      exact ⟨by omega, hg⟩
theorem freeK_yes {r : Ros.R} {k : Nat} {v : Int} (hv : v = freeK r k) (hp : r.peer k < 0) (hg : v < 0 ∨ r.gen k < r.gen v.toNat) : (k : Int) = freeK r (k + 1) := by
  subst hv
  rw [freeK, if_pos ⟨hp, hg⟩]
theorem freeK_no {r : Ros.R} {k : Nat} {v : Int} (hv : v = freeK r k) (h : ¬ (r.peer k < 0 ∧ (v < 0 ∨ r.gen k < r.gen v.toNat))) : v = freeK r (k + 1) := by
  subst hv
  rw [freeK, if_neg h]
end Fd
set_option maxRecDepth 100000 in
set_option maxHeartbeats 4000000 in
theorem reffree_is (r : Ros.R) (w : World) (hok : Ros.Ok r) :
    Calls Tryz.prog 40 #[.agg (Ros.cells r)] w fun e w' => e = .returned (.int .i64 (Fd.freeV r)) ∧ Below w.heap.size w w' := by
  have P0 := Lib.hid (Box.made w 33 (Ros.cells r))
  have K0 := Lib.hid (one_below w (.cells (Ros.cells r) 33))
  have cm := fun X => Lib.hid (refros_may r X)
  have HOK := Lib.hid hok
  clear hok
  go_enter Tryz.func40, Tryz.ntmps40
  go_wp2
  go_loopw [3, 4] (fun b i wr => ∃ (k : Nat) (v : Int), k ≤ 8 ∧ i = .int .i64 k ∧ b = .int .i64 v ∧ v = Fd.freeK r k ∧ Box wr w.heap.size 33 (Ros.cells r) ∧ Below w.heap.size w wr) (fun _ i _ => 8 - (intOf i).toNat)
  case atStart => exact ⟨0, -1, by omega, rfl, rfl, rfl, P0.out, K0.out⟩
  case round =>
    obtain ⟨k, v, hk, rfl, rfl, hv, hB, hb⟩ := hrel
    clear P0 K0
    have HB := Lib.hid hB
    have HBB := Lib.hid hb
    clear hB hb
    have HV := Lib.hid hv
    have hvi : v = -1 ∨ ∃ q : Nat, q < 8 ∧ v = q := by
      rcases Fd.freeK_is r k with h | ⟨q, hq, h⟩
      · exact .inl (hv.trans h)
      · exact .inr ⟨q, by omega, hv.trans h⟩
    clear hv
    by_cases hlt : k < 8
    · have hk8 : (k : Int) < 8 := by omega
      rcases hvi with rfl | ⟨q, hq, rfl⟩
      · skip
        go_upto_region 5 with (first | ((with_reducible refine ros_load_g ?_ rfl ?_); (focus first | rfl | kernel_rfl | simp [Region.wanted, yielded]); apply LoadRow.mk rfl; (focus (with_reducible exact HB.out)); (focus (exact ros_info))) | (go_at_call 37; ((with_reducible refine ((cm _).out).mono ?_); rintro e w1 ⟨⟨v1, rfl, hv⟩, hb⟩; obtain rfl : v1 = true := hv.2 HOK.out; have B1 := Lib.hid (HB.out.below hb HB.out.lt); have K1 := Lib.hid (HBB.out.trans (hb.mono HBB.out.size)); clear hb hv)))
        have c1 := (B1.out.cell (1 + k * 2)).trans (Ros.cells_peer r k hlt)
        have g1 := (B1.out.cell (1 + k * 2 + 1)).trans (Ros.cells_gen r k hlt)
        obtain ⟨pk, hpk⟩ : ∃ pk, pk = r.peer k := ⟨_, rfl⟩
        rw [← hpk] at c1
        have HP := Lib.hid hpk.symm
        clear hpk
        have B3 := fun m => Lib.hid (B1.out.draws m)
        have K3 := fun m => Lib.hid (draws_below K1.out m)
        by_cases hp : pk < 0
        · go_quiet (fail)
          go_wp2
          go_roundw
          case rel => exact ⟨k + 1, (k : Int), by omega, by go_num, rfl, Fd.freeK_yes HV.out (by rw [HP.out]; exact hp) (.inl (by omega)), (B3 _).out, (K3 _).out⟩
          case measure => simp [intOf]; omega
        · go_quiet (fail)
          go_wp2
          go_roundw
          case rel => exact ⟨k + 1, -1, by omega, by go_num, rfl, Fd.freeK_no HV.out (fun h => hp (HP.out ▸ h.1)), (B3 _).out, (K3 _).out⟩
          case measure => simp [intOf]; omega
      · skip
        go_upto_region 5 with (first | ((with_reducible refine ros_load_g ?_ rfl ?_); (focus first | rfl | kernel_rfl | simp [Region.wanted, yielded]); apply LoadRow.mk rfl; (focus (with_reducible exact HB.out)); (focus (exact ros_info))) | (go_at_call 37; ((with_reducible refine ((cm _).out).mono ?_); rintro e w1 ⟨⟨v1, rfl, hv⟩, hb⟩; obtain rfl : v1 = true := hv.2 HOK.out; have B1 := Lib.hid (HB.out.below hb HB.out.lt); have K1 := Lib.hid (HBB.out.trans (hb.mono HBB.out.size)); clear hb hv)))
        have c1 := (B1.out.cell (1 + k * 2)).trans (Ros.cells_peer r k hlt)
        have g1 := (B1.out.cell (1 + k * 2 + 1)).trans (Ros.cells_gen r k hlt)
        have hq8 : (q : Int) < 8 := by omega
        have g2 := (B1.out.cell (1 + q * 2 + 1)).trans (Ros.cells_gen r q hq)
        obtain ⟨pk, hpk⟩ : ∃ pk, pk = r.peer k := ⟨_, rfl⟩
        obtain ⟨gk, hgk⟩ : ∃ gk, gk = r.gen k := ⟨_, rfl⟩
        obtain ⟨gq, hgq⟩ : ∃ gq, gq = r.gen q := ⟨_, rfl⟩
        rw [← hpk] at c1
        rw [← hgk] at g1
        rw [← hgq] at g2
        have HP := Lib.hid hpk.symm
        have HK := Lib.hid hgk.symm
        have HQ := Lib.hid hgq.symm
        clear hpk hgk hgq
        have B3 := fun m => Lib.hid (B1.out.draws m)
        have K3 := fun m => Lib.hid (draws_below K1.out m)
        by_cases hp : pk < 0
        · by_cases hg : gk < gq
          · go_quiet (fail)
            go_wp2
            go_roundw
            case rel => exact ⟨k + 1, (k : Int), by omega, by go_num, rfl, Fd.freeK_yes HV.out (by rw [HP.out]; exact hp) (.inr (by rw [HK.out, Int.toNat_natCast, HQ.out]; exact hg)), (B3 _).out, (K3 _).out⟩
            case measure => simp [intOf]; omega
          · go_quiet (fail)
            go_wp2
            go_roundw
            case rel => exact ⟨k + 1, (q : Int), by omega, by go_num, rfl, Fd.freeK_no HV.out (fun h => hg (by have h2 := h.2.resolve_left (by omega); rw [HK.out, Int.toNat_natCast, HQ.out] at h2; exact h2)), (B3 _).out, (K3 _).out⟩
            case measure => simp [intOf]; omega
        · go_quiet (fail)
          go_wp2
          go_roundw
          case rel => exact ⟨k + 1, (q : Int), by omega, by go_num, rfl, Fd.freeK_no HV.out (fun h => hp (HP.out ▸ h.1)), (B3 _).out, (K3 _).out⟩
          case measure => simp [intOf]; omega
    · have hk8 : ¬ (k : Int) < 8 := by omega
      obtain rfl : k = 8 := by omega
      rcases hvi with rfl | ⟨q, hq, rfl⟩
      · go_wp2
        go_ret
        exact ⟨by unfold Fd.freeV; rw [← HV.out, if_neg (by omega)] <;> rfl, HBB.out⟩
      · have hq8 : (q : Int) < 8 := by omega
        have g2 := (HB.out.cell (1 + q * 2 + 1)).trans (Ros.cells_gen r q hq)
        obtain ⟨gq, hgq⟩ : ∃ gq, gq = r.gen q := ⟨_, rfl⟩
        rw [← hgq] at g2
        by_cases hg : gq = 60000
        · have hg' : (gq == 60000) = true := by simpa using hg
          have HGQ := Lib.hid (show r.gen q = 60000 from hgq ▸ hg)
          clear hgq
          go_wp2
          go_ret
          exact ⟨by unfold Fd.freeV; rw [← HV.out, if_pos ⟨by omega, by rw [Int.toNat_natCast]; exact HGQ.out⟩] <;> rfl, HBB.out⟩
        · have hg' : (gq == 60000) = false := by simpa using hg
          have HGQ := Lib.hid (show r.gen q ≠ 60000 from hgq ▸ hg)
          clear hgq
          go_wp2
          go_ret
          exact ⟨by unfold Fd.freeV; rw [← HV.out, if_neg (fun h => HGQ.out (by have h2 := h.2; rw [Int.toNat_natCast] at h2; exact h2))] <;> rfl, HBB.out⟩
end Go.Proofs.YtkkhdaeihnbilaaGreat
namespace Go.Proofs.YtkkhdaeihnbilaaGreat
open Go.RowKit Go.Shelf
set_option linter.unusedVariables false
set_option linter.unusedSimpArgs false


section
variable {ops : Array Oper} {rest : List Oper} {o : Oper} {a : Act} {w : World} {Q : Exit → Act → World → Prop} {x y : Operand} {dst : Option Tmp} {p v : Value}
/-- What the store of an entry's input wants. -/
def StoreIn (ops : Array Oper) (Q : Exit → Act → World → Prop) (rest : List Oper) (dst : Option Tmp) (p v : Value) (a : Act) (w : World) : Prop :=
  ∃ (B i : Nat) (e : En.E) (s : Value) (u : Gm.In), p = .pointer (some ⟨B, 2 + i * 3, none⟩) ∧ v = .agg #[.int .i8 u.x, .int .i8 u.y, .int .u8 u.b] ∧ i < 8 ∧ Box w B 42 (En.cells e s) ∧ wpList Tryz.prog ops Q rest (a.put dst undef) (w.setRow B (En.cells { e with inp := En.upd e.inp i u } s))
theorem StoreIn.mk {B i : Nat} {e : En.E} {s : Value} {u : Gm.In} (hp : p = .pointer (some ⟨B, 2 + i * 3, none⟩)) (hv : v = .agg #[.int .i8 u.x, .int .i8 u.y, .int .u8 u.b]) (hi : i < 8) (hB : Box w B 42 (En.cells e s)) (h : wpList Tryz.prog ops Q rest (a.put dst undef) (w.setRow B (En.cells { e with inp := En.upd e.inp i u } s))) : StoreIn ops Q rest dst p v a w := ⟨B, i, e, s, u, hp, hv, hi, hB, h⟩
theorem en_splice (e : En.E) (s : Value) (i : Nat) (hi : i < 8) (u : Gm.In) : splice (En.cells e s) (2 + i * 3) [.int .i8 u.x, .int .i8 u.y, .int .u8 u.b] = En.cells { e with inp := En.upd e.inp i u } s := by
  match i, hi with
  | 0, _ | 1, _ | 2, _ | 3, _ | 4, _ | 5, _ | 6, _ | 7, _ => rfl
theorem en_store_in (hgd : o.guard = none) (ho : o.op = .store 39 x y) (h : StoreIn ops Q rest o.dst (a.eval x) (a.eval y) a w) : wpList Tryz.prog ops Q (o :: rest) a w := by
  obtain ⟨B, i, e, s, u, hx, hy, hi, hB, h⟩ := h
  refine wpList_store_mid hgd 39 x y ho B (2 + i * 3) #[.int .i8 u.x, .int .i8 u.y, .int .u8 u.b] hx hy (hB.there _ _ (by rw [En.cells_size]; show 2 + i * 3 + 3 ≤ 26; omega)) in_info (by simp [Value.oneCell']) ?_
  rw [setCells_row B 42 _ (2 + i * 3) (En.cells e s) w hB.is (by rw [En.cells_size]; show 2 + i * 3 + 3 ≤ 26; omega), en_splice e s i hi u]
  exact h
end

end Go.Proofs.YtkkhdaeihnbilaaGreat
namespace Go.Proofs.YtkkhdaeihnbilaaGreat
open Go.ChangeShapes Go.WideShapes Go.ChangeAt Go.RowKit Go.Joins Go.ChangeMaps Go.Deep
set_option linter.unusedVariables false

section
variable {H : Type} {enc : TypeId × Value → H} {w : World} {base : Nat} {spare : Nat → Bool} {held : Bool}
theorem trod_in {fuel : Nat} {a b c : Value} {y : DataW H × List MemPlace} (h : DataW.trod enc Tryz.prog w base spare held fuel 39 [a, b, c] = some y) : ∃ q : Gm.In, [a, b, c] = q.cells ∧ Gm.tyIn q ∧ y.2 = [] := by
  obtain ⟨y0, y1, y2, n, hx, _, h0, h1, h2⟩ := trod_struct3 Tryz.underlying39 h
  obtain ⟨x0, e0, rfl, w0⟩ := DataW.trod_int Tryz.underlying37 h0
  obtain ⟨x1, e1, rfl, w1⟩ := DataW.trod_int Tryz.underlying37 h1
  obtain ⟨x2, e2, rfl, w2⟩ := DataW.trod_int Tryz.underlying5 h2
  have c8 : Tryz.prog.cellsOf 37 = 1 := by kernel_rfl
  have cu : Tryz.prog.cellsOf 5 = 1 := by kernel_rfl
  simp [c8, cu] at e0 e1 e2
  subst e0 e1 e2
  exact ⟨⟨x0, x1, x2⟩, rfl, ⟨Bd.i8 w0, Bd.i8 w1, Bd.u8 w2⟩, by rw [hx]; rfl⟩
theorem cut24 {α : Type} (l : List α) (h : l.length = 24) : l = (l.drop (0 * 3)).take 3 ++ ((l.drop (1 * 3)).take 3 ++ ((l.drop (2 * 3)).take 3 ++ ((l.drop (3 * 3)).take 3 ++ ((l.drop (4 * 3)).take 3 ++ ((l.drop (5 * 3)).take 3 ++ ((l.drop (6 * 3)).take 3 ++ ((l.drop (7 * 3)).take 3))))))) := by
  match l, h with
  | [a0, a1, a2, a3, a4, a5, a6, a7, a8, a9, a10, a11, a12, a13, a14, a15, a16, a17, a18, a19, a20, a21, a22, a23], _ => rfl
end
end Go.Proofs.YtkkhdaeihnbilaaGreat
namespace Go.Proofs.YtkkhdaeihnbilaaGreat
open Go.ChangeShapes Go.WideShapes Go.ChangeAt Go.RowKit Go.Joins Go.ChangeMaps Go.Deep
set_option linter.unusedVariables false

theorem cut_at9 {α : Type} (l : List α) (a b : Nat) : l.drop a = (l.drop a).take b ++ l.drop (a + b) := by
  have := (List.take_append_drop b (l.drop a)).symm
  rwa [List.drop_drop] at this
theorem cut_end9 {α : Type} (l : List α) (a b : Nat) (h : l.length = a + b) : l.drop a = (l.drop a).take b := by
  rw [List.take_of_length_le (by simp; omega)]
section
variable {H : Type} {enc : TypeId × Value → H} {w : World} {base : Nat} {spare : Nat → Bool} {held : Bool}
set_option maxRecDepth 100000 in
theorem trod_ins {base : Nat} {spare : Nat → Bool} {held : Bool} {fuel : Nat} {l : List Value} {y : DataW H × List MemPlace} (hl : l.length = 24) (h : DataW.trod enc Tryz.prog w base spare held fuel 40 l = some y) :
    ∃ f : Nat → Gm.In, l = Gm.insCells f ∧ ∀ k, k < 8 → Gm.tyIn (f k) := by
  obtain ⟨xs, m, _, hx, _, hn, he⟩ := DataW.trod_array Tryz.underlying40 h
  have c3 : Tryz.prog.cellsOf 39 = 3 := by kernel_rfl
  simp only [c3] at he
  have key : ∀ i, i < 8 → ∃ q : Gm.In, (l.drop (i * 3)).take 3 = q.cells ∧ Gm.tyIn q := by
    intro i hi
    have hlen : ((l.drop (i * 3)).take 3).length = 3 := by simp; omega
    obtain ⟨y, hy⟩ : ∃ y, xs[i]? = some y := ⟨xs[i]'(by omega), List.getElem?_eq_getElem (by omega)⟩
    have h : DataW.trod enc Tryz.prog w base spare held m 39 ((l.drop (i * 3)).take 3) = xs[i]? := he i hi
    rw [hy] at h
    match hq : (l.drop (i * 3)).take 3, hlen with
    | [a, b, c], _ =>
      rw [hq] at h
      obtain ⟨q, h1, h2, _⟩ := trod_in h
      exact ⟨q, h1, h2⟩
  have hch : ∃ ps : Nat → Gm.In, ∀ i, i < 8 → ((l.drop (i * 3)).take 3 = (ps i).cells ∧ Gm.tyIn (ps i)) :=
    ⟨fun i => if h : i < 8 then (key i h).choose else ⟨0, 0, 0⟩, fun i hi => by dsimp only; rw [dif_pos hi]; exact (key i hi).choose_spec⟩
  obtain ⟨ps, hps⟩ := hch
  refine ⟨ps, ?_, fun i hi => (hps i hi).2⟩
  rw [cut24 l hl]
  unfold Gm.insCells
  rw [(hps 0 (by decide)).1, (hps 1 (by decide)).1, (hps 2 (by decide)).1, (hps 3 (by decide)).1, (hps 4 (by decide)).1, (hps 5 (by decide)).1, (hps 6 (by decide)).1, (hps 7 (by decide)).1]
end
end Go.Proofs.YtkkhdaeihnbilaaGreat
namespace Fd
open Go
/-- A turn: who comes or goes, what all do. -/
structure Turn where
  peer : Int
  inp : Nat → Gm.In
def Turn.cells (q : Turn) : List Value := [Value.int .i64 q.peer] ++ Gm.insCells q.inp
theorem Turn.cells_len (q : Turn) : q.cells.length = 25 := rfl
def Turn.ty (q : Turn) : Prop := (-9223372036854775808 ≤ q.peer ∧ q.peer ≤ 9223372036854775807) ∧ ∀ i, i < 8 → Gm.tyIn (q.inp i)
end Fd
namespace Go.Proofs.YtkkhdaeihnbilaaGreat
open Go.ChangeShapes Go.WideShapes Go.ChangeAt Go.RowKit Go.Joins Go.ChangeMaps Go.Deep
set_option linter.unusedVariables false
section
variable {H : Type} {enc : TypeId × Value → H} {w : World} {base : Nat} {spare : Nat → Bool} {held : Bool}
set_option maxRecDepth 100000 in
theorem trod_turn {base : Nat} {spare : Nat → Bool} {held : Bool} {fuel : Nat} {l : List Value} {y : DataW H × List MemPlace} (hl : l.length = 25) (h : DataW.trod enc Tryz.prog w base spare held fuel 78 l = some y) : ∃ q : Fd.Turn, l = q.cells ∧ q.ty := by
  obtain ⟨xs, n, _, _, _, hlen, hf⟩ := DataW.trod_struct Tryz.underlying78 h
  have ci : Tryz.prog.cellsOf 3 = 1 := by kernel_rfl
  have c24 : Tryz.prog.cellsOf 40 = 24 := by kernel_rfl
  match xs, hlen with
  | [y0, y1], _ =>
    obtain ⟨x0, e0, _, w0⟩ := DataW.trod_int Tryz.underlying3 (hf 0 _ rfl)
    have h1 := hf 1 _ rfl
    simp [ci, c24] at e0 h1
    obtain ⟨f, e1, hty⟩ := trod_ins (by simp; omega) h1
    refine ⟨⟨x0, f⟩, ?_, Bd.i64 w0, hty⟩
    have e0' : (l.drop 0).take 1 = [Value.int .i64 x0] := by rw [← e0]; simp
    have q1 : l.drop 1 = Gm.insCells f := by rw [← e1, ← List.drop_one]; exact cut_end9 l 1 24 (by omega)
    have q0 : l.drop 0 = [Value.int .i64 x0] ++ Gm.insCells f := by rw [← q1, ← e0']; exact cut_at9 l 0 1
    exact q0
set_option maxRecDepth 100000 in
theorem open_turns {b0 : Nat} {v : Value} {d : DataW H} {p : List MemPlace} (hv : Value.okWide Tryz.prog w .any b0 51 v) (h : DataW.Trod enc Tryz.prog w base spare held 51 v d p) :
    ∃ (A : Option Addr) (c : Nat) (l : List Fd.Turn), v = .slice A l.length c ∧ (∀ q ∈ l, q.ty) ∧ l.length ≤ maxLen ∧ Lies w w.heap.size 25 A l.length (l.flatMap Fd.Turn.cells) := by
  have hag : ∀ cs, v ≠ .agg cs := fun cs e => by subst e; simp [Value.okWide, Tryz.underlying51, Cell.okWide, Cell.ok] at hv
  exact open_slice (enc := enc) (w := w) (base := base) (spare := spare) (held := held) Fd.Turn.cells 25 Fd.Turn.ty ⟨0, fun _ => ⟨0, 0, 0⟩⟩ Tryz.underlying51 (by kernel_rfl) (by decide) (fun _ => rfl) (fun hl ht => trod_turn hl ht) hag h
end
end Go.Proofs.YtkkhdaeihnbilaaGreat
namespace Go.Proofs.YtkkhdaeihnbilaaGreat
open Go.RowKit
set_option linter.unusedVariables false

section
variable {t : TypeId} {cs : Array Value} {code : Int} {b k : Nat} {vm vm' : Nat → Value} {w w' : World}
end
theorem exec_alloc_z {P : Program} {o : Oper} {a : Act} {w : World} {t : TypeId} {z : Value} {cs : Array Value} (ho : o.op = .alloc t) (hz : (P.info? t).map (·.zero) = some (some z)) (hc : z.cells = cs) :
    (execOp a.eval o).run P w = .ok (.value (.pointer (some ⟨w.heap.size, 0, none⟩))) (w.alloc (.cells cs t)) := by
  have hz' : (zeroValue t).run P w = .ok z w := by
    cases hq : P.info? t with
    | none => simp [hq] at hz
    | some i => simp [hq] at hz; simp [zeroValue, typeInfo, hq, hz]
  subst hc
  unfold execOp
  simp only [ho, Instr.alloc, Sem.run_bind, hz', Result.andThen_ok]
  rfl
theorem exec_store_blk {P : Program} {o : Oper} {a : Act} {w : World} {x y : Operand} {B : Nat} {t : TypeId} {cs old : Array Value} (ho : o.op = .store t x y) (hx : a.eval x = .pointer (some ⟨B, 0, none⟩)) (hy : a.eval y = .agg cs) (hB : Box w B t old) (hi : (P.info? t).map (·.size) = some cs.size) (hs : old.size = cs.size) (h1 : cs.all (·.oneCell') = true) :
    (execOp a.eval o).run P w = .ok .skip (w.setRow B cs) := by
  have hs := run_storeVar_row (P := P) w B t t old cs hB.is hi hs h1
  unfold execOp
  simp only [ho, hx, hy, Instr.storeAt, Instr.sureAddr, Sem.run_bind, Sem.run_pure, Result.andThen_ok, hs]
theorem exec_load_ros {o : Oper} {a : Act} {w : World} {x : Operand} {B : Nat} {r : Ros.R} (ho : o.op = .load 33 x) (hx : a.eval x = .pointer (some ⟨B, 0, none⟩)) (hB : Box w B 33 (Ros.cells r)) :
    (execOp a.eval o).run Tryz.prog w = .ok (.value (.agg (Ros.cells r))) w := exec_load_blk ho hx hB Tryz.underlying33 rfl ros_info
end Go.Proofs.YtkkhdaeihnbilaaGreat
namespace Go.Proofs.YtkkhdaeihnbilaaGreat
open Go Go.RowKit
set_option linter.unusedVariables false

theorem exec_load_state {o : Oper} {a : Act} {w : World} {x : Operand} {B : Nat} {g : Gm.G} {s : Value} {r : Ros.R} (ho : o.op = .load 35 x) (hx : a.eval x = .pointer (some ⟨B, 0, none⟩)) (hB : Box w B 35 (Im.cells g s r)) :
    (execOp a.eval o).run Tryz.prog w = .ok (.value (.agg (Im.cells g s r))) w := exec_load_blk ho hx hB Tryz.underlying35 rfl (by rw [Im.cells_size]; exact state_info)
theorem exec_load_entry {o : Oper} {a : Act} {w : World} {x : Operand} {ad : Addr} (q : En.S) (ho : o.op = .load 42 x) (hx : a.eval x = .pointer (some ad)) (hc : ∀ j v, q.cells[j]? = some v → w.cell? (ad.add j) = some v) :
    (execOp a.eval o).run Tryz.prog w = .ok (.value (.agg (En.cells q.e q.sl))) w := by
  rw [← En.S.cells_arr]
  exact exec_load_any ho hx hc Tryz.underlying42 rfl (by rw [En.S.cells_len]; exact en_info26)
theorem state_one {g : Gm.G} {s : Value} {r : Ros.R} (h : s.oneCell' = true) : (Im.cells g s r).all (·.oneCell') = true := im_cells_one _ _ _ h
/-- The call, its tuple, the state, the code, t's block, the state in it. -/
def stV (G : Gm.G) (r : Ros.R) (code : Int) (b : Nat) (k : Nat) (vm : Nat → Value) (w : World) : Prop :=
  match k with
  | 0 => ∃ A c, vm 0 = .tuple #[.agg (Im.cells G (.slice A G.shots.length c) r), .int .i64 code] ∧ Lies w w.heap.size 6 A G.shots.length (Gm.shotCells G.shots)
  | 1 => ∃ A c, vm 1 = .tuple #[.agg (Im.cells G (.slice A G.shots.length c) r), .int .i64 code] ∧ Lies w w.heap.size 6 A G.shots.length (Gm.shotCells G.shots)
  | 2 => ∃ A c, vm 2 = .agg (Im.cells G (.slice A G.shots.length c) r) ∧ Lies w w.heap.size 6 A G.shots.length (Gm.shotCells G.shots)
  | 3 => vm 3 = .int .i64 code
  | 4 => ∃ B g' A' m' c' r', vm 4 = .pointer (some ⟨B, 0, none⟩) ∧ b ≤ B ∧ Box w B 35 (Im.cells g' (.slice A' m' c') r')
  | _ => ∃ B A c, vm 4 = .pointer (some ⟨B, 0, none⟩) ∧ b ≤ B ∧ Box w B 35 (Im.cells G (.slice A G.shots.length c) r) ∧ Lies w w.heap.size 6 A G.shots.length (Gm.shotCells G.shots)
section
variable {G : Gm.G} {r : Ros.R} {code : Int} {b k : Nat} {vm vm' : Nat → Value} {w w' : World}
theorem stV_1 (h : stV G r code b 1 vm w) : ∃ A c, vm 1 = .tuple #[.agg (Im.cells G (.slice A G.shots.length c) r), .int .i64 code] ∧ Lies w w.heap.size 6 A G.shots.length (Gm.shotCells G.shots) := h
theorem stV_0 (h : stV G r code b 0 vm w) : ∃ A c, vm 0 = .tuple #[.agg (Im.cells G (.slice A G.shots.length c) r), .int .i64 code] ∧ Lies w w.heap.size 6 A G.shots.length (Gm.shotCells G.shots) := h
theorem stV_2 (h : stV G r code b 2 vm w) : ∃ A c, vm 2 = .agg (Im.cells G (.slice A G.shots.length c) r) ∧ Lies w w.heap.size 6 A G.shots.length (Gm.shotCells G.shots) := h
theorem stV_3 (h : stV G r code b 3 vm w) : vm 3 = .int .i64 code := h
theorem stV_4 (h : stV G r code b 4 vm w) : ∃ B g' A' m' c' r', vm 4 = .pointer (some ⟨B, 0, none⟩) ∧ b ≤ B ∧ Box w B 35 (Im.cells g' (.slice A' m' c') r') := h
theorem stV_5 (h : stV G r code b 5 vm w) : ∃ B A c, vm 4 = .pointer (some ⟨B, 0, none⟩) ∧ b ≤ B ∧ Box w B 35 (Im.cells G (.slice A G.shots.length c) r) ∧ Lies w w.heap.size 6 A G.shots.length (Gm.shotCells G.shots) := h
theorem stV_below (h : stV G r code b k vm w) (hb : Below w.heap.size w w') : stV G r code b k vm w' := by
  match k, h with
  | 0, ⟨A, c, e, hl⟩ => exact ⟨A, c, e, hl.call hb⟩
  | 1, ⟨A, c, e, hl⟩ => exact ⟨A, c, e, hl.call hb⟩
  | 2, ⟨A, c, e, hl⟩ => exact ⟨A, c, e, hl.call hb⟩
  | 3, h => exact h
  | 4, ⟨B, g', A', m', c', r', e, hb', hB⟩ => exact ⟨B, g', A', m', c', r', e, hb', hB.below hb hB.lt⟩
  | k + 5, ⟨B, A, c, e, hb', hB, hl⟩ => exact ⟨B, A, c, e, hb', hB.below hb hB.lt, hl.call hb⟩
theorem stV_row {B : Nat} {g g' : Gm.G} {q r' : Ros.R} {A A' : Option Addr} {m m' c c' : Nat} (h : stV G r code b k vm w) (hk : k < 5) (h4 : vm 4 = .pointer (some ⟨B, 0, none⟩)) (hB : Box w B 35 (Im.cells g (.slice A m c) q)) : stV G r code b k vm (w.setRow B (Im.cells g' (.slice A' m' c') r')) := by
  match k, h with
  | 0, ⟨A, c, e, hl⟩ => exact ⟨A, c, e, hl.state_row rfl hB _⟩
  | 1, ⟨A, c, e, hl⟩ => exact ⟨A, c, e, hl.state_row rfl hB _⟩
  | 2, ⟨A, c, e, hl⟩ => exact ⟨A, c, e, hl.state_row rfl hB _⟩
  | 3, h => exact h
  | 4, ⟨B', g1, A1, m1, c1, r1, e, hb', hB'⟩ =>
    have eb : B' = B := by rw [e] at h4; injection h4 with h4; injection h4 with h4; injection h4
    subst eb
    exact ⟨B', g', A', m', c', r', e, hb', hB.row _⟩
theorem stV_congr (h : stV G r code b k vm w) (hk : k < 6) (h0 : vm k = vm' k) (h4 : k = 5 → vm 4 = vm' 4) : stV G r code b k vm' w := by
  match k, hk, h with
  | 0, _, ⟨A, c, e, hl⟩ => exact ⟨A, c, h0 ▸ e, hl⟩
  | 1, _, ⟨A, c, e, hl⟩ => exact ⟨A, c, h0 ▸ e, hl⟩
  | 2, _, ⟨A, c, e, hl⟩ => exact ⟨A, c, h0 ▸ e, hl⟩
  | 3, _, h => exact h0.symm.trans h
  | 4, _, ⟨B, g', A', m', c', r', e, hb', hB⟩ => exact ⟨B, g', A', m', c', r', h0 ▸ e, hb', hB⟩
  | 5, _, ⟨B, A, c, e, hb', hB, hl⟩ => exact ⟨B, A, c, (h4 rfl) ▸ e, hb', hB, hl⟩
end
end Go.Proofs.YtkkhdaeihnbilaaGreat
namespace Go.Proofs.YtkkhdaeihnbilaaGreat
open Go Go.RowKit Go.Shelf
set_option linter.unusedVariables false
set_option linter.unusedSimpArgs false

/-- What Make hands back: entries that go through, one behind the other. -/
def Made (d : Int) (n : Nat) (w : World) (e : Ending) (w' : World) : Prop :=
  ∃ (A : Option Addr) (c : Nat) (l : List En.S) (u : Fd.S), e = .returned (.slice A l.length c) ∧ LiesS w' w'.heap.size A l.length l ∧ (∀ q ∈ l, ∀ i, i < 8 → Gm.tyIn (q.e.inp i)) ∧ Fd.run (Fd.start d) (Fd.es l) = some u ∧ l.length ≤ n ∧ Below w.heap.size w w' ∧ l.length ≤ c
theorem Mk.cap {w W : World} {bs : Nat} {d : Int} {u : Fd.S} {A AO : Option Addr} {c cO : Nat} {out : List En.S} (h : Mk w bs d u A c AO cO out W) : out.length ≤ cO := by
  obtain ⟨_, ⟨e, h0⟩ | ⟨g, cap, cur, e, _, _, hc, _⟩⟩ := h.own
  · omega
  · injection e with _ _ e
    omega
/-- What lies there while an entry is put together. -/
structure Mr (wr : World) (k : Nat) (r : Ros.R) (evs : List En.Ev) (ps : Nat → Gm.In) (AE : Option Addr) (cE : Nat) (W : World) : Prop where
  en : Box W wr.heap.size 42 (En.cells ⟨k, evs, ps⟩ (.slice AE evs.length cE))
  ro : Box W (wr.heap.size + 1) 33 (Ros.cells r)
  ev : LT W 61 4 AE evs.length (En.evCells evs)
  below : Below wr.heap.size wr W
section
variable {wr W W' : World} {k : Nat} {r r' : Ros.R} {evs : List En.Ev} {ps ps' : Nat → Gm.In} {AE : Option Addr} {cE : Nat}
theorem Mr.call (h : Mr wr k r evs ps AE cE W) (hb : Below W.heap.size W W') : Mr wr k r evs ps AE cE W' :=
  ⟨h.en.below hb h.en.lt, h.ro.below hb h.ro.lt, h.ev.call hb, h.below.trans (hb.mono h.below.size)⟩
theorem Mr.ros (h : Mr wr k r evs ps AE cE W) (r' : Ros.R) : Mr wr k r' evs ps AE cE (W.setRow (wr.heap.size + 1) (Ros.cells r')) :=
  ⟨h.en.row_far (by omega) _, h.ro.row _, h.ev.row h.ro (by decide) _, Below.setRow' h.below (by omega) _⟩
theorem Mr.inp (h : Mr wr k r evs ps AE cE W) (ps' : Nat → Gm.In) : Mr wr k r evs ps' AE cE (W.setRow wr.heap.size (En.cells ⟨k, evs, ps'⟩ (.slice AE evs.length cE))) :=
  ⟨h.en.row _, h.ro.row_far (by omega) _, h.ev.row h.en (by decide) _, Below.setRow' h.below (Nat.le_refl _) _⟩
end
theorem LT.set {w : World} {t t' : TypeId} {size n B : Nat} {A : Option Addr} {xs : List Value} {old : Array Value} (h : LT w t size A n xs) (hB : Box w B t' old) (hne : t ≠ t') (i : Nat) (v : Value) : LT (w.setCell ⟨B, i, none⟩ v) t size A n xs :=
  h.stays ((Below.refl 0 w).setCell (Nat.zero_le _) v).size fun ad e => heap_setCell_other w ⟨B, i, none⟩ _ v fun eb => by
    obtain ⟨cs1, fz, h1⟩ := h.typed.is ad e
    rw [eb, hB.is] at h1
    injection h1 with h1
    injection h1 with _ ht _
    exact hne ht.symm
/-- An event is put into the entry. -/
theorem Mr.event {wr W : World} {k : Nat} {r : Ros.R} {ps : Nat → Gm.In} (h : Mr wr k r [] ps none 0 W) (v : En.Ev) :
    Mr wr k r [v] ps (some ⟨W.heap.size, 0, none⟩) 1 ((W.setCell ⟨wr.heap.size, 1, none⟩ (.slice (some ⟨W.heap.size, 0, none⟩) 1 1)).alloc (.cells #[.int .i64 v.kind, .int .i64 v.slot, .int .i64 v.gen, .int .i64 v.peer] 61)) :=
  have hs : (W.setCell ⟨wr.heap.size, 1, none⟩ (.slice (some ⟨W.heap.size, 0, none⟩) 1 1)).heap.size = W.heap.size := by simp
  ⟨(h.en.put 1 _).alloc _, (h.ro.far (by show _ ≠ wr.heap.size; omega) _).alloc _, LT.boxed (xs := En.evCells [v]) (Box.made_at (n := W.heap.size) _ _ _ hs.symm) rfl, (h.below.setCell (Nat.le_refl _) _).alloc (by rw [hs]; exact h.below.size) _⟩
theorem Fd.Turn.cells_in (q : Fd.Turn) (i c : Nat) (hi : i < 8) (hc : c < 3) : q.cells[1 + i * 3 + c]? = (q.inp i).cells[c]? := by
  match i, hi with
  | 0, _ | 1, _ | 2, _ | 3, _ | 4, _ | 5, _ | 6, _ | 7, _ =>
    match c, hc with
    | 0, _ | 1, _ | 2, _ => rfl
theorem addr_succ (a : Addr) (m : Nat) : a.add (m + 1) = ⟨a.block, a.off + (m + 1), none⟩ := by unfold Addr.add; rw [if_neg (by omega)]
theorem fq_ros {B0 : Nat} {W : World} {o : Oper} {a : Act} {K : Act → Prop} {B : Nat} {r : Ros.R} {x : Operand} (ho : o.op = .load 33 x) (hx : a.eval x = .pointer (some ⟨B, 0, none⟩)) (hB : ∀ q : Ext B0 W, Box q.w B 33 (Ros.cells r)) (h : K (a.put o.dst (.agg (Ros.cells r)))) :
    o.quiet Tryz.prog a (fun w' => ∃ q : Ext B0 W, w' = q.w) K :=
  ⟨_, fun w hw => by obtain ⟨q, e'⟩ := hw; subst e'; unfold Oper.quietAt; rw [exec_load_blk ho hx (hB q) Tryz.underlying33 rfl ros_info]; exact ⟨rfl, rfl⟩, h⟩
theorem exec_load_event {o : Oper} {a : Act} {w : World} {x : Operand} {ad : Addr} (v : En.Ev) (ho : o.op = .load 61 x) (hx : a.eval x = .pointer (some ad)) (hc : ∀ j u, v.cells[j]? = some u → w.cell? (ad.add j) = some u) :
    (execOp a.eval o).run Tryz.prog w = .ok (.value (.agg #[.int .i64 v.kind, .int .i64 v.slot, .int .i64 v.gen, .int .i64 v.peer])) w :=
  exec_load_any (cs := v.cells) ho hx hc Tryz.underlying61 rfl ev4_size
theorem refevent_is (s : Fd.S) (v : En.Ev) (hv : En.evOk v) : ∃ (r2 : Ros.R) (code : Int), ∀ w, Calls Tryz.prog 31 #[.agg (Ros.cells s.r), .agg #[.int .i64 v.kind, .int .i64 v.slot, .int .i64 v.gen, .int .i64 v.peer]] w fun e w' => e = .returned (.tuple #[.agg (Ros.cells r2), .int .i64 code]) ∧ Below w.heap.size w w' := by
  by_cases h : Fd.MayEv s v
  · exact ⟨_, 0, fun w => refevent_yes s v w h⟩
  · exact ⟨_, 1, fun w => refevent_no s v w hv h⟩
theorem refslot_is (r : Ros.R) (p : Int) (hok : Ros.Ok r) (hp : 0 ≤ p) : ∃ v : Int, (v = -1 ∨ ∃ k : Nat, k < 8 ∧ v = k ∧ r.peer k = p) ∧ ∀ w, Calls Tryz.prog 26 #[.agg (Ros.cells r), .int .i64 p] w fun e w' => e = .returned (.int .i64 v) ∧ Below w.heap.size w w' := by
  by_cases h : ∃ k : Nat, k < 8 ∧ r.peer k = p
  · obtain ⟨k, hk, he⟩ := h
    refine ⟨k, .inr ⟨k, hk, rfl, he⟩, fun w => (refslot_any r p w).mono ?_⟩
    rintro e w' ⟨⟨v, rfl, ⟨_, hno⟩ | ⟨k', hk', rfl, _, _, he'⟩⟩, hb⟩
    · exact absurd he (hno hok hp k hk)
    · obtain rfl : k' = k := hok.one hk' hk (he'.trans he.symm) (by rw [he']; omega)
      exact ⟨rfl, hb⟩
  · refine ⟨-1, .inl rfl, fun w => (refslot_any r p w).mono ?_⟩
    rintro e w' ⟨⟨v, rfl, ⟨rfl, _⟩ | ⟨k', hk', rfl, _, _, he'⟩⟩, hb⟩
    · exact ⟨rfl, hb⟩
    · exact absurd ⟨k', hk', he'⟩ h

set_option maxRecDepth 100000 in
set_option maxHeartbeats 2500000 in
theorem make_any (seed : ByteArray) (l : List Fd.Turn) (A : Option Addr) (n c : Nat) (d : Int) (w : World) (hsz : seed.size ≤ maxLen) (hd : d = Dn.seed seed.data.toList) (hn : n = l.length) (hn100 : n ≤ 100) (hl : Lies w w.heap.size 25 A n (l.flatMap Fd.Turn.cells)) (hty : ∀ q ∈ l, q.ty) :
    Calls Tryz.prog 18 #[.string seed, .slice A n c] w (Made d n w) := by
  have cs := fun X => Lib.hid (start_any seed X hsz)
  have hdb := Dn.seed_bd seed.data.toList
  rw [← hd] at cs hdb
  have HDB := Lib.hid hdb
  have HL := Lib.hid hl
  have HT := Lib.hid hty
  have HN := Lib.hid hn
  clear hsz hd hdb hl hty hn
  go_enter Tryz.func18, Tryz.ntmps18
  go_upto_region 2 with (first | (with_reducible refine alloc_state rfl rfl ?_) | (with_reducible refine im_store_new rfl rfl rfl rfl Im.zero_size rfl ?_) | (go_at_call 22; ((with_reducible refine ((cs _).out).mono ?_); rintro x w1 ⟨rfl, hb⟩; have S1 := Lib.hid (Box.made w1 35 (Im.cells (Gm.new d) (.slice none 0 0) Ros.new)); have K1 := Lib.hid (hb.alloc hb.size (.cells (Im.cells (Gm.new d) (.slice none 0 0) Ros.new) 35)); have sz1 := hb.size; clear hb)))
  generalize hW1 : w1.alloc (.cells (Im.cells (Gm.new d) (.slice none 0 0) Ros.new) 35) = W1 at S1 K1 ⊢
  generalize hbs : w1.heap.size = bs at S1 sz1 ⊢
  clear hW1 hbs
  have M1 := Lib.hid (show Mk w bs d (Fd.start d) none 0 none 0 [] W1 from ⟨S1.out, LT.nil, World.ownsRow_nil _ _ _ _, fun q h => (nomatch h), fun q h => (nomatch h), fun q h => (nomatch h), rfl, sz1, K1.out⟩)
  clear S1 K1 cs sz1
  go_wp2
  go_loopw [6, 7, 8, 9, 10, 11, 12, 13, 14, 15, 16] (fun o i _ _ _ _ _ _ _ _ _ wr => ∃ (k : Nat) (u : Fd.S) (A' : Option Addr) (c' : Nat) (AO : Option Addr) (cO : Nat) (out : List En.S), k ≤ n ∧ i = .int .i64 k ∧ o = .slice AO out.length cO ∧ out.length = k ∧ Mk w bs d u A' c' AO cO out wr) (fun _ i _ _ _ _ _ _ _ _ _ _ => n - (intOf i).toNat)
  case atStart => exact ⟨0, Fd.start d, none, 0, none, 0, [], Nat.zero_le _, rfl, rfl, rfl, M1.out⟩
  case round =>
    obtain ⟨k, u, A', c', AO, cO, out, hk, rfl, rfl, hout, hM⟩ := hrel
    rename World => w0
    have HO := Lib.hid hout
    clear hout
    clear M1
    by_cases hlt : k < n
    · have hk8 : (k : Int) < n := by omega
      have hkl : k < l.length := by have := HN.out; omega
      have hFi := ((Fd.start_fine HDB.out).run hM.run).1
      have hLw := (HL.out.below hM.below)
      obtain ⟨ad, rfl, hblk⟩ := hLw.start (by omega)
      have hrow : ∀ j v, j < 25 → l[k].cells[j]? = some v → w0.cell? ((ad.add (k * 25)).add j) = some v := fun j v hj hv => by
        rw [add_twice]
        exact hLw.cell ad rfl (by omega) _ v (by rw [flat_at Fd.Turn.cells_len l k j hkl hj, hv])
      have hq := HT.out l[k] (List.getElem_mem hkl)
      generalize l[k] = q at hrow hq
      have szM := hM.below.size
      have hbw : (ad.add (k * 25)).block < w0.heap.size := by rw [add_block]; exact Nat.lt_of_lt_of_le hblk szM
      have TC := Lib.hid (fun (X : World) (hX : Below w0.heap.size w0 X) (j : Nat) (v : Value) (hj : j < 25) (hv : q.cells[j]? = some v) => (hX.cell (p := (ad.add (k * 25)).add j) (by rw [add_block]; exact hbw)).trans (hrow j v hj hv))
      have HM := Lib.hid hM
      have HF := Lib.hid hFi
      have HQ := Lib.hid hq
      have E1 := Lib.hid (Box.made w0 42 (En.cells (Fd.eI k) (.slice none 0 0)))
      have M2 := Lib.hid (hM.call (one_below w0 (.cells (En.cells (Fd.eI k) (.slice none 0 0)) 42)))
      have E2 := Lib.hid (E1.out.alloc (.cells (Ros.cells u.r) 33))
      have R2 := Lib.hid (Box.made_at (n := w0.heap.size + 1) (w0.alloc (.cells (En.cells (Fd.eI k) (.slice none 0 0)) 42)) 33 (Ros.cells u.r) (by simp))
      have K2 := Lib.hid (two_below' w0 (.cells (En.cells (Fd.eI k) (.slice none 0 0)) 42) (.cells (Ros.cells u.r) 33))
      have hp0 : w0.cell? (ad.add (k * 25)) = some (.int .i64 q.peer) := hrow 0 _ (by decide) rfl
      have hqp := hq.1
      obtain ⟨pe, hpe⟩ : ∃ pe, pe = q.peer := ⟨_, rfl⟩
      rw [← hpe] at hp0 hqp
      obtain ⟨p, hp40, hpp⟩ : ∃ p : Nat, p < 40 ∧ wrap64 ((IntKind.u64.wrap pe).tmod 40) = (p : Int) := by
        rw [wrap_u64']
        obtain ⟨z, hz⟩ : ∃ z, z = pe % 18446744073709551616 := ⟨_, rfl⟩
        rw [← hz]
        have hz0 : 0 ≤ z := by omega
        clear hz
        refine ⟨(z % 40).toNat, by omega, ?_⟩
        rw [Int.tmod_eq_emod_of_nonneg hz0, IntWalk.wrap64_in _ (by omega)]
        omega
      clear hFi hLw hq hM hrow hpe
      go_upto_region 9 with (first | (with_reducible refine alloc_en rfl rfl ?_) | (with_reducible refine en_store_new rfl rfl rfl rfl En.zeroC_size rfl ?_) | (refine wpList_build_is rfl (t := 42) (vs := [(0, .int .i64 k)]) rfl rfl (en_built_I k) ?_) | (with_reducible refine ros_alloc rfl rfl ?_) | (with_reducible refine ros_store_new rfl rfl rfl rfl rfl ?_) | ((with_reducible refine im_load_ros rfl rfl ?_); apply LoadIm.mk rfl; (focus (with_reducible exact M2.out.st)); dsimp only))
      rw [hpp]
      have RD := Lib.hid (show Mr w0 k u.r [] Fd.in0 none 0 ((w0.alloc (.cells (En.cells (Fd.eI k) (.slice none 0 0)) 42)).alloc (.cells (Ros.cells u.r) 33)) from ⟨E2.out, R2.out, LT.nil, K2.out⟩)
      generalize ((w0.alloc (.cells (En.cells (Fd.eI k) (.slice none 0 0)) 42)).alloc (.cells (Ros.cells u.r) 33)) = W2 at RD ⊢
      clear hpp hp0 E1 E2 R2 K2 M2 hqp

      go_upto_if 38 with fail
      go_cut [11, 12] from 19 to 141 (fun _ _ wx => ∃ (evs : List En.Ev) (AE : Option Addr) (cE : Nat), Mr w0 k u.r evs Fd.in0 AE cE wx ∧ evs.length ≤ 1 ∧ ∀ v ∈ evs, En.evOk v)
      case first =>
        by_cases hp12 : p < 12
        · have hp12' : (p : Int) < 12 := by omega
          obtain ⟨v1, hv1, hs1⟩ := refslot_is u.r p HF.out.ok.2.1 (by omega)
          have cs1 := fun X => Lib.hid (hs1 X)
          have cf1 := fun X => Lib.hid (reffree_is u.r X HF.out.ok.2.1)
          have hv2 := Fd.freeV_is u.r
          have hseat := fun (j : Nat) (hj : j < 8) => Ros.Ok.seat HF.out.ok.2.1 j hj
          have HS := Lib.hid hseat
          generalize Fd.freeV u.r = v2 at cf1 hv2
          clear hs1 hseat
          go_upto_region 10 with fail
          have ZR := Lib.hid (fun q : Ext W2.heap.size W2 => RD.out.ro.below q.h RD.out.ro.lt)
          have RX := Lib.hid (fun q : Ext W2.heap.size W2 => RD.out.call q.h)
          refine wp_region_ext W2.heap.size W2 (by kernel_rfl) (by kernel_rfl) (Below.refl _ _) ?_
          repeat (first | (go_big_quiet_want; refine fq_ros rfl rfl ZR.out ?_; simp only [Act.put, List.setIfInBounds_toArray, List.set_cons_succ, List.set_cons_zero]; go_big_quiet_on) | go_big_quiet_step ((first | (go_at_call 26; with_reducible exact Calls.ext_of (Nat.le_refl _) (cs1 _).out) | (go_at_call 40; with_reducible exact Calls.ext_of (Nat.le_refl _) (cf1 _).out))))
          refine wpQuiet_nil ?_
          intro _ hw'
          obtain ⟨q3, hw''⟩ := hw'
          subst hw''
          have R3 := Lib.hid (RX.out q3)
          generalize q3.w = W3 at *
          clear cs1 cf1 ZR RX RD q3
          have n1 := (R3.out.en.cell 1).trans (En.cells_1 _ _)
          have f1 := R3.out.en.free 1
          have l1 := R3.out.en.lt
          rcases hv1 with rfl | ⟨k1, hk1, rfl, hpk⟩
          · rcases hv2 with rfl | ⟨k2, hk2, rfl, hg2⟩
            · go_wp2
              go_meet
              exact ⟨[], none, 0, R3.out, by simp, fun v h => (nomatch h)⟩
            · have hk28 : (k2 : Int) < 8 := by omega
              have g3 := (R3.out.ro.cell (1 + k2 * 2 + 1)).trans (Ros.cells_gen u.r k2 hk2)
              obtain ⟨gk, hgk⟩ : ∃ gk, gk = u.r.gen k2 := ⟨_, rfl⟩
              have hgb := (HS.out k2 hk2).1
              rw [← hgk] at g3 hg2 hgb
              have hw1 : IntKind.i64.wrap (gk + 1) = gk + 1 := by rw [IntKind.wrap_i64]; omega
              have J := Lib.hid (R3.out.event ⟨1, k2, gk + 1, p⟩)
              have OKV := Lib.hid (show En.evOk ⟨1, k2, gk + 1, p⟩ from ⟨.inr rfl, ⟨by show (0 : Int) ≤ k2; omega, hk28⟩, ⟨by show 1 ≤ gk + 1; omega, by show gk + 1 ≤ 60000; omega⟩, by show (0 : Int) ≤ p; omega, hp12'⟩)
              clear hgk
              go_wp2
              go_meet
              exact ⟨[⟨1, k2, gk + 1, p⟩], _, 1, J.out, by simp, fun v h => by obtain rfl := List.mem_singleton.1 h; exact OKV.out⟩
          · have hk18 : (k1 : Int) < 8 := by omega
            have g3 := (R3.out.ro.cell (1 + k1 * 2 + 1)).trans (Ros.cells_gen u.r k1 hk1)
            obtain ⟨gk, hgk⟩ : ∃ gk, gk = u.r.gen k1 := ⟨_, rfl⟩
            have hgb := (HS.out k1 hk1)
            unfold Ros.OkSeat at hgb
            rw [← hgk, hpk] at hgb
            rw [← hgk] at g3
            have J := Lib.hid (R3.out.event ⟨2, k1, gk, p⟩)
            have OKV := Lib.hid (show En.evOk ⟨2, k1, gk, p⟩ from ⟨.inl rfl, ⟨by show (0 : Int) ≤ k1; omega, hk18⟩, ⟨by show 1 ≤ gk; omega, by show gk ≤ 60000; omega⟩, by show (0 : Int) ≤ p; omega, hp12'⟩)
            clear hgk hgb hpk
            go_wp2
            go_meet
            exact ⟨[⟨2, k1, gk, p⟩], _, 1, J.out, by simp, fun v h => by obtain rfl := List.mem_singleton.1 h; exact OKV.out⟩
        · have hp12' : ¬ (p : Int) < 12 := by omega
          go_wp2
          go_meet
          exact ⟨[], none, 0, RD.out, by simp, fun v h => (nomatch h)⟩
      case rest =>
        obtain ⟨evs, AE, cE, hMr, hlen, hok⟩ := hcut
        have R4 := Lib.hid hMr
        have OKE := Lib.hid hok
        clear hMr hok RD
        have n1 := (R4.out.en.cell 1).trans (En.cells_1 _ _)
        go_wp2
        go_loopw [13] (fun i wr => ∃ (j : Nat) (r' : Ros.R), j ≤ evs.length ∧ i = .int .i64 j ∧ Mr w0 k r' evs Fd.in0 AE cE wr) (fun i _ => evs.length - (intOf i).toNat)
        case atStart => exact ⟨0, u.r, Nat.zero_le _, rfl, R4.out⟩
        case round =>
          obtain ⟨j, r', hj, rfl, hRj⟩ := hrel
          clear n1 R4
          have RJ := Lib.hid hRj
          clear hRj
          have n1 := (RJ.out.en.cell 1).trans (En.cells_1 _ _)
          by_cases hjl : j < evs.length
          · have hjl8 : (j : Int) < evs.length := by omega
            obtain ⟨ad2, rfl, hb2⟩ := RJ.out.ev.lies.start (by omega)
            have hev := fun i v (hi : i < 4) (hv : (evs[j]).cells[i]? = some v) => RJ.out.ev.lies.cell ad2 rfl (by omega) (j * 4 + i) v (by rw [En.evCells_at evs j i hjl hi]; exact hv)
            have hvo := OKE.out evs[j] (List.getElem_mem hjl)
            generalize evs[j] = ev at hev hvo
            obtain ⟨r2, code, hcs⟩ := refevent_is ⟨u.g, r'⟩ ev hvo
            have CE := Lib.hid hcs
            have RX := Lib.hid (fun X (hX : Below wr.heap.size wr X) => RJ.out.ro.below hX RJ.out.ro.lt)
            have NX := Lib.hid (fun X (hX : Below wr.heap.size wr X) => ((RJ.out.en.below hX RJ.out.en.lt).cell 1).trans (En.cells_1 _ _))
            have EX := Lib.hid (fun X (hX : Below wr.heap.size wr X) (i : Nat) (v : Value) (hv : ev.cells[i]? = some v) => (hX.cell (p := (ad2.add (j * 4)).add i) (by rw [add_block, add_block]; exact hb2)).trans (show wr.cell? ((ad2.add (j * 4)).add i) = some v by rw [add_twice]; exact hev i v (by have := (List.getElem?_eq_some_iff.1 hv).1; exact this) hv))
            clear hcs hvo hev
            go_upto_region 18 with fail
            refine Rp.wp_region_lex (by kernel_rfl) [] (by kernel_rfl) (fun X => Below wr.heap.size wr X) (fun X => Below wr.heap.size wr X) (fun _ => True) ((Below.refl _ _).drew) (fun W hW => ⟨hW, trivial⟩) ?_
            repeat (first
              | (apply Rp.lex_free rfl rfl; focus (intro _; go_simp; first | done | rfl))
              | (apply Rp.lex_look rfl rfl rfl rfl; focus (intro W hW; exact exec_load_ros rfl rfl (RX.out W hW)))
              | (apply Rp.lex_look rfl rfl rfl rfl; focus (intro W hW; exact exec_load_event ev rfl rfl (EX.out W hW)))
              | (apply Rp.lex_look rfl rfl rfl rfl; focus (intro W hW; have q0 := NX.out W hW; clear hW; go_simp; first | done | rfl)))
            refine Rp.lex_call (C' := fun X => Below wr.heap.size wr X) (v := .tuple #[.agg (Ros.cells r2), .int .i64 code]) (f := 31) (args := #[.agg (Ros.cells r'), .agg #[.int .i64 ev.kind, .int .i64 ev.slot, .int .i64 ev.gen, .int .i64 ev.peer]]) rfl ?_ ?_ ?_ ?_
            · intro Z hZ; clear hZ; go_simp; first | done | rfl | exact ⟨rfl, rfl⟩
            · intro Z hZ
              exact (CE.out Z).mono (fun e w' h => ⟨h.1, hZ.trans (h.2.mono hZ.size)⟩)
            · exact fun Z hZ => ⟨hZ, trivial⟩
            repeat (apply Rp.lex_free rfl rfl; focus (intro _; go_simp; first | done | rfl))
            refine Rp.lex_store (C' := fun Y => ∃ X, Below wr.heap.size wr X ∧ Y = X.setRow (w0.heap.size + 1) (Ros.cells r2)) (D' := fun _ => True) rfl rfl ?_ (fun _ _ => ⟨trivial, trivial⟩) ?_
            · intro Z hZ
              refine ⟨_, exec_store_blk (B := w0.heap.size + 1) (cs := Ros.cells r2) (old := Ros.cells r') rfl ?_ ?_ (RX.out Z hZ) ros_info (Eq.trans (b := 17) rfl rfl) (ros_one _), Z, hZ, rfl⟩ <;> (clear hZ; go_simp; first | done | rfl)
            refine Rp.lex_end fun W3 hW3 => ?_
            obtain ⟨X, hX, rfl⟩ := hW3
            have R6 := Lib.hid ((RJ.out.call hX).ros r2)
            clear CE RX NX EX RJ hX n1 hb2
            go_wp2
            go_roundw
            case rel => exact ⟨j + 1, r2, by omega, by go_num, R6.out⟩
            case measure => simp [intOf]; omega
          · have hjl8 : ¬ (j : Int) < evs.length := by omega
            go_upto_region 19 with fail
            clear hjl8 hjl hj n1
            go_wp2
            go_loopw [14] (fun i wr => ∃ (j : Nat) (ps : Nat → Gm.In), j ≤ 8 ∧ i = .int .i64 j ∧ (∀ i, i < 8 → Gm.tyIn (ps i)) ∧ Mr w0 k r' evs ps AE cE wr) (fun i _ => 8 - (intOf i).toNat)
            case atStart => exact ⟨0, Fd.in0, by omega, rfl, in0_tyin, RJ.out⟩
            case round =>
              obtain ⟨i, ps, hi, rfl, hps, hRi⟩ := hrel
              clear RJ
              have RI := Lib.hid hRi
              have HPS := Lib.hid hps
              clear hRi hps
              by_cases hi8 : i < 8
              · have hi8' : (i : Int) < 8 := by omega
                have c0 := (RI.out.ro.cell (1 + i * 2)).trans (Ros.cells_peer r' i hi8)
                obtain ⟨pk, hpk⟩ : ∃ pk, pk = r'.peer i := ⟨_, rfl⟩
                rw [← hpk] at c0
                have ha : ∀ t, (⟨(ad.add (k * 25)).block, (ad.add (k * 25)).off + 1 + i * 3 + t, none⟩ : Addr) = (ad.add (k * 25)).add (1 + i * 3 + t) := fun t => by rw [show 1 + i * 3 + t = (i * 3 + t) + 1 by omega, addr_succ, show (ad.add (k * 25)).off + 1 + i * 3 + t = (ad.add (k * 25)).off + (i * 3 + t + 1) by omega]
                have hx := fun t ht v hv => (congrArg wr.cell? (ha t)).trans (TC.out wr RI.out.below (1 + i * 3 + t) v (by omega) ((Fd.Turn.cells_in q i t hi8 ht).trans hv))
                have htp := HQ.out.2 i hi8
                generalize q.inp i = P at hx htp
                have x0 : wr.cell? ⟨(ad.add (k * 25)).block, (ad.add (k * 25)).off + 1 + i * 3, none⟩ = some (.int .i8 P.x) := hx 0 (by decide) _ rfl
                have x1 : wr.cell? ⟨(ad.add (k * 25)).block, (ad.add (k * 25)).off + 1 + i * 3 + 1, none⟩ = some (.int .i8 P.y) := hx 1 (by decide) _ rfl
                have x2 : wr.cell? ⟨(ad.add (k * 25)).block, (ad.add (k * 25)).off + 1 + i * 3 + 2, none⟩ = some (.int .u8 P.b) := hx 2 (by decide) _ rfl
                obtain ⟨X, Y, B⟩ := P
                dsimp only at x0 x1 x2
                have HTP := Lib.hid htp
                clear hx ha hpk htp
                by_cases hp0 : pk < 0
                · go_wp2
                  go_roundw
                  case rel => exact ⟨i + 1, ps, by omega, by go_num, HPS.out, RI.out⟩
                  case measure => simp [intOf]; omega
                · by_cases hxx : X = -128
                  · have hxb : (X != -128) = false := by simp [hxx]
                    go_wp2
                    go_roundw
                    case rel => exact ⟨i + 1, ps, by omega, by go_num, HPS.out, RI.out⟩
                    case measure => simp [intOf]; omega
                  · have hxb : (X != -128) = true := by simpa using hxx
                    by_cases hyy : Y = -128
                    · have hyb : (Y != -128) = false := by simp [hyy]
                      go_wp2
                      go_roundw
                      case rel => exact ⟨i + 1, ps, by omega, by go_num, HPS.out, RI.out⟩
                      case measure => simp [intOf]; omega
                    · have hyb : (Y != -128) = true := by simpa using hyy
                      have R6 := Lib.hid (RI.out.inp (En.upd ps i ⟨X, Y, B⟩))
                      go_wp2_with (first | ((with_reducible refine en_store_in rfl rfl ?_); apply StoreIn.mk (u := ⟨X, Y, B⟩) rfl rfl hi8 RI.out.en; dsimp only))
                      go_roundw
                      case rel => exact ⟨i + 1, En.upd ps i ⟨X, Y, B⟩, by omega, by go_num, fun t ht => by (unfold En.upd; split; exact HTP.out; exact HPS.out t ht), R6.out⟩
                      case measure => simp [intOf]; omega
              · obtain rfl : i = 8 := by omega
                have M7 := Lib.hid (HM.out.call RI.out.below)
                have szb := HM.out.st.lt
                have hlm : evs.length ≤ maxLen := by unfold maxLen; omega
                have HLM := Lib.hid hlm
                cases hap : Fd.apply u ⟨k, evs, ps⟩ with
                | none =>
                  have ca := Lib.hid (refapply_none u ⟨k, evs, ps⟩ A' AE u.g.shots.length c' evs.length cE wr HF.out.ty (by have := HF.out.few; unfold maxLen; omega) rfl M7.out.sh.lies rfl hlm RI.out.ev.lies HPS.out hap)
                  clear hap hlm
                  go_wp2_with (first | (with_reducible refine alloc_state rfl rfl ?_) | ((with_reducible refine im_load_state rfl rfl ?_); apply LoadIm.mk rfl; (focus (with_reducible exact M7.out.st)); dsimp only) | ((with_reducible refine en_load rfl rfl ?_); apply LoadEn.mk rfl; (focus (with_reducible exact RI.out.en)); dsimp only) | (with_reducible refine im_store_new rfl rfl rfl rfl Im.zero_size rfl ?_) | (go_at_call 13; ((with_reducible refine ((ca).out).mono ?_); rintro x w8 ⟨A8, c8, rfl, hL, hb⟩; have M8 := Lib.hid ((M7.out.call hb).call (one_below w8 (.cells (Im.cells u.g (.slice A8 u.g.shots.length c8) u.r) 35))); clear hb hL)))
                  go_ret
                  exact ⟨AO, cO, out, u, rfl, M8.out.lies, M8.out.ty, M8.out.run, by have := HO.out; omega, M8.out.below, M8.out.cap⟩
                | some v =>
                  have ca := Lib.hid (refapply_own u v ⟨k, evs, ps⟩ A' AE u.g.shots.length c' evs.length cE wr HF.out.ty (by have := HF.out.few; unfold maxLen; omega) rfl M7.out.sh.lies rfl hlm RI.out.ev.lies HPS.out hap)
                  have HAP := Lib.hid hap
                  clear hap hlm
                  go_upto_region 27 with (first | (with_reducible refine alloc_state rfl rfl ?_) | ((with_reducible refine im_load_state rfl rfl ?_); apply LoadIm.mk rfl; (focus (with_reducible exact M7.out.st)); dsimp only) | ((with_reducible refine en_load rfl rfl ?_); apply LoadEn.mk rfl; (focus (with_reducible exact RI.out.en)); dsimp only) | (with_reducible refine im_store_new rfl rfl rfl rfl Im.zero_size rfl ?_) | (go_at_call 13; ((with_reducible refine ((ca).out).mono ?_); rintro x w8 ⟨A8, c8, rfl, hL, hT, hb⟩; have L9 := Lib.hid ((LT.mk hL hT).call (one_below w8 (.cells (Im.cells v.g (.slice A8 v.g.shots.length c8) v.r) 35))); have M9 := Lib.hid ((M7.out.call hb).call (one_below w8 (.cells (Im.cells v.g (.slice A8 v.g.shots.length c8) v.r) 35))); have R9 := Lib.hid ((RI.out.call hb).call (one_below w8 (.cells (Im.cells v.g (.slice A8 v.g.shots.length c8) v.r) 35))); have N9 := Lib.hid (Box.made w8 35 (Im.cells v.g (.slice A8 v.g.shots.length c8) v.r)); clear hb hL hT)))
                  generalize hW9 : w8.alloc (.cells (Im.cells v.g (.slice A8 v.g.shots.length c8) v.r) 35) = W9 at L9 M9 R9 N9 ⊢
                  generalize w8.heap.size = b9 at N9 ⊢
                  clear hW9 ca
                  have NX := Lib.hid (M9.out.next (q := ⟨⟨k, evs, ps⟩, AE, cE⟩) (c2 := c8) HAP.out L9.out R9.out.ev HLM.out HPS.out)
                  have EN := Lib.hid (R9.out.en.row_far (show w0.heap.size ≠ bs by omega) (Im.cells v.g (.slice A8 v.g.shots.length c8) v.r))
                  have BL := Lib.hid (Below.setRow' M9.out.below M9.out.far (Im.cells v.g (.slice A8 v.g.shots.length c8) v.r))
                  obtain ⟨i0, hi0, hz0, hz1, hz2⟩ := en_parts
                  have hI := Lib.hid hi0
                  have hZ := Lib.hid hz0
                  have hS := Lib.hid hz1
                  have hY := Lib.hid hz2
                  have ho100 : out.length ≤ 100 := by have := HO.out; omega
                  clear hi0 hz0 hz1 hz2
                  go_wp2_with (first | ((with_reducible refine im_load_state rfl rfl ?_); apply LoadIm.mk rfl; (focus (with_reducible exact N9.out)); dsimp only) | ((with_reducible refine im_store_state rfl rfl ?_); apply StoreS.mk rfl rfl; (focus (with_reducible exact M9.out.st)); (focus (exact Im.cells_size _ _ _)); (focus rfl)) | ((with_reducible refine en_load rfl rfl ?_); apply LoadEn.mk rfl; (focus (with_reducible exact EN.out)); dsimp only) | ((with_reducible refine en_build1 rfl rfl ?_); refine BuildEn1.mk (q := ⟨⟨k, evs, ps⟩, AE, cE⟩) rfl ?_) | ((with_reducible refine append_gate (t := 52) (e := 42) (size := 26) (bytes := 56) rfl rfl Tryz.underlying52 hI.out hZ.out hS.out hY.out rfl (by decide) ?_); refine Appends.mk (base := w.heap.size) (n := out.length) (xs := En.sCells out) (m := 1) (news := En.sCells [⟨⟨k, evs, ps⟩, AE, cE⟩]) rfl NX.out.1 (Lies.boxed4 (Box.made _ 42 _) rfl) (En.sCells_one _) (by unfold maxLen; omega) (by omega) (Nat.le_trans BL.out.size (one_below _ _).size) ?_; intro A10 c10 w10 own10 hg10; have M11 := Lib.hid (NX.out.2 A10 c10 w10 own10 hg10); clear own10 hg10))
                  go_roundw
                  case rel => exact ⟨k + 1, v, A8, c8, A10, c10, out ++ [⟨⟨k, evs, ps⟩, AE, cE⟩], by omega, by go_num, by rw [List.length_append]; rfl, by rw [List.length_append, HO.out]; rfl, M11.out⟩
                  case measure => simp [intOf]; omega
    · have hk8 : ¬ (k : Int) < n := by omega
      have M7 := Lib.hid hM
      clear hM
      go_wp2
      go_ret
      exact ⟨AO, cO, out, u, rfl, M7.out.lies, M7.out.ty, M7.out.run, by have := HO.out; omega, M7.out.below, M7.out.cap⟩
end Go.Proofs.YtkkhdaeihnbilaaGreat
