/-
Several texts in one: Zo Za Yp Zq Zr.
-/
import Derived.Test.YtgmlbimgcifenaaVz11
set_option maxRecDepth 100000
set_option maxHeartbeats 8000000
set_option linter.unusedVariables false
set_option linter.unusedSimpArgs false
namespace Ms
open Go
noncomputable def insB (m : M) : Bool := @decide (∀ k (h : k < m.ins.length), inB m.ins[k] = true) (Classical.propDecidable _)
noncomputable def logOkB (m : M) : Bool := @decide (∀ k (h : k < m.log.length), En.Ok m.log[k].e ∧ m.log[k].e.frame = m.frame + k) (Classical.propDecidable _)
theorem insB_iff {m : M} : insB m = true ↔ ∀ k (h : k < m.ins.length), inB m.ins[k] = true := by unfold insB; exact @decide_eq_true_iff _ (Classical.propDecidable _)
theorem logOkB_iff {m : M} : logOkB m = true ↔ ∀ k (h : k < m.log.length), En.Ok m.log[k].e ∧ m.log[k].e.frame = m.frame + k := by unfold logOkB; exact @decide_eq_true_iff _ (Classical.propDecidable _)
theorem insB_no {m : M} (h : ¬ ∀ k (h : k < m.ins.length), inB m.ins[k] = true) : false = insB m := by
  cases hb : insB m
  · rfl
  · exact absurd (insB_iff.1 hb) h
theorem logOkB_no {m : M} (h : ¬ ∀ k (h : k < m.log.length), En.Ok m.log[k].e ∧ m.log[k].e.frame = m.frame + k) : false = logOkB m := by
  cases hb : logOkB m
  · rfl
  · exact absurd (logOkB_iff.1 hb) h
def mayW (m : M) : Bool → Bool → Bool := fun ib lb => ((((((Ms.isKind m.kind) && (decide (0 ≤ m.frm))) && (decide (m.frm < 12))) && (Ms.mayP (Ms.own m.kind) m)) && (ib)) && (lb))
end Ms
namespace Go.Proofs.Ytgmlbimgcifenaa
open Go.RowKit Go.Shelf
theorem in_at3 {w : World} {B n : Nat} {A : Option Addr} {l : List Gm.In} (h : Lies w B 3 A n (Gm.inCells l)) (hn : n = l.length) (k : Nat) (hk : k < l.length) :
    ∃ ad, A = some ad ∧ ad.block < B ∧ w.cell? (ad.add (k * 3)) = some (.int .i8 l[k].x) ∧ w.cell? ⟨(ad.add (k * 3)).block, (ad.add (k * 3)).off + 1, none⟩ = some (.int .i8 l[k].y) ∧ w.cell? ⟨(ad.add (k * 3)).block, (ad.add (k * 3)).off + 2, none⟩ = some (.int .u8 l[k].b) := by
  obtain ⟨ad, rfl, hb⟩ := h.start (by omega)
  have hc := h.cell ad rfl (by omega)
  have hj : ∀ j v, j < 3 → l[k].cells[j]? = some v → w.cell? ((ad.add (k * 3)).add j) = some v := fun j v hj hv => by
    rw [add_twice]
    exact hc _ v (by rw [Gm.inCells_at l k j hk hj, hv])
  exact ⟨ad, rfl, hb, hj 0 _ (by decide) rfl, hj 1 _ (by decide) rfl, hj 2 _ (by decide) rfl⟩
theorem mayinputs_any (m : Ms.M) (A : Option Addr) (c : Nat) (w : World) (fi : m.ins.length ≤ maxLen) (hT : ∀ p ∈ m.ins, Gm.tyIn p) (hL : Lies w w.heap.size 3 A m.ins.length (Gm.inCells m.ins)) :
    Calls Try.prog 36 #[.slice A m.ins.length c] w fun e w' => e = .returned (.bool (Ms.insB m)) ∧ Below w.heap.size w w' := by
  obtain ⟨r, hr⟩ : ∃ r, r = Ms.insB m := ⟨_, rfl⟩
  rw [← hr]
  have HR := qh hr
  unfold maxLen at fi
  obtain ⟨n, hn⟩ : ∃ n, n = m.ins.length := ⟨_, rfl⟩
  rw [← hn] at hL fi ⊢
  have HN := qh hn
  clear hr hn hT
  go_enter Try.func36, Try.ntmps36
  go_wp2
  go_loopw [7] (fun i wr => ∃ k : Nat, k ≤ n ∧ i = .int .i64 k ∧ (∀ j (h : j < m.ins.length), j < k → Ms.inB m.ins[j] = true) ∧ Below w.heap.size w wr) (fun i _ => n - (intOf i).toNat)
  case atStart => exact ⟨0, by omega, rfl, fun j h h' => by omega, Below.refl _ _⟩
  case round =>
    obtain ⟨k, hk, rfl, hall, hb⟩ := hrel
    by_cases hlt : k < n
    · have hk8 : (k : Int) < n := by omega
      have hkl : k < m.ins.length := by have := HN.out; omega
      obtain ⟨ad, rfl, hbl, e0, e1, e2⟩ := in_at3 (hL.below hb) HN.out k hkl
      have HV := qh (show Ms.inB m.ins[k] = decide (-127 ≤ m.ins[k].x ∧ -127 ≤ m.ins[k].y) from rfl)
      generalize hv : m.ins[k] = v at e0 e1 e2 HV
      obtain ⟨vx, vy, vb⟩ := v
      dsimp only at e0 e1 e2
      have HVV := qh hv
      have HA := qh hall
      have HB := qh hb
      have sz := hb.size
      have ltA : ad.block < wr.heap.size := by omega
      have cm := fun X => qh (stickmay_any vx vy vb X)
      by_cases hev : -127 ≤ vx ∧ -127 ≤ vy
      · rw [decide_eq_true hev] at cm
        have HE := qh hev
        clear hev hall hb hL hv
        go_wp2_with (go_at_call 56; ((with_reducible refine ((cm _).out).mono ?_); rintro e w1 ⟨rfl, hb1⟩; have K1 := qh ((HB.out.alloc sz _).trans (hb1.mono (by simp <;> omega))); clear hb1))
        go_roundw
        case rel => exact ⟨k + 1, by omega, by go_num, fun j h h' => by
          by_cases e : j = k
          · subst e; rw [HVV.out, HV.out]; exact decide_eq_true HE.out
          · exact HA.out j h (by omega), K1.out⟩
        case measure => simp [intOf]; omega
      · rw [decide_eq_false hev] at cm
        have HE := qh hev
        clear hev hall hb hL hv
        go_wp2_with (go_at_call 56; ((with_reducible refine ((cm _).out).mono ?_); rintro e w1 ⟨rfl, hb1⟩; have K1 := qh ((HB.out.alloc sz _).trans (hb1.mono (by simp <;> omega))); clear hb1))
        go_ret
        exact ⟨ret_bool (by rw [HR.out]; exact Ms.insB_no fun h => by have := h k hkl; rw [HVV.out, HV.out] at this; exact HE.out (of_decide_eq_true this)), K1.out⟩
    · have hk8 : ¬ (k : Int) < n := by omega
      obtain rfl : k = n := by omega
      have HA := qh hall
      have HB := qh hb
      clear hall hb hL
      go_wp2
      go_ret
      exact ⟨ret_bool (by rw [HR.out]; exact (Ms.insB_iff.2 fun j h => HA.out j h (by have := HN.out; omega)).symm), HB.out⟩
theorem maylog_any (m : Ms.M) (A : Option Addr) (c : Nat) (w : World) (hf : En.i64 m.frame) (fl : m.log.length ≤ maxLen) (hL : LiesS w w.heap.size A m.log.length m.log) :
    Calls Try.prog 37 #[.int .i64 m.frame, .slice A m.log.length c] w fun e w' => e = .returned (.bool (Ms.logOkB m)) ∧ Below w.heap.size w w' := by
  obtain ⟨r, hr⟩ : ∃ r, r = Ms.logOkB m := ⟨_, rfl⟩
  rw [← hr]
  have HR := qh hr
  unfold maxLen at fl
  obtain ⟨n, hn⟩ : ∃ n, n = m.log.length := ⟨_, rfl⟩
  rw [← hn] at hL fl ⊢
  have HN := qh hn
  obtain ⟨f, hfr⟩ : ∃ f, f = m.frame := ⟨_, rfl⟩
  rw [← hfr] at hf ⊢
  have HF := qh hfr
  have HFT := qh hf
  have HLX := qh hL
  clear hr hn hfr hf hL
  go_enter Try.func37, Try.ntmps37
  go_wp2
  go_loopw [5, 9] (fun _ i wr => ∃ k : Nat, k ≤ n ∧ i = .int .i64 k ∧ (∀ j (h : j < m.log.length), j < k → En.Ok m.log[j].e ∧ m.log[j].e.frame = f + j) ∧ Below w.heap.size w wr) (fun _ i _ => n - (intOf i).toNat)
  case atStart => exact ⟨0, by omega, rfl, fun j h h' => by omega, Below.refl _ _⟩
  case round =>
    obtain ⟨k, hk, rfl, hall, hb⟩ := hrel
    by_cases hlt : k < n
    · have hk8 : (k : Int) < n := by omega
      have hkl : k < m.log.length := by have := HN.out; omega
      have hwrap : IntKind.i64.wrap (f + (k : Int)) = f + k := by
        have h1 := HFT.out
        unfold En.i64 at h1
        by_cases h0 : k = 0
        · subst h0; rw [IntKind.wrap_i64]; omega
        · have a := hall 0 (by omega) (by omega)
          have b := hall (k - 1) (by omega) (by omega)
          have a1 := a.1.frame
          have b1 := b.1.frame
          rw [a.2] at a1
          rw [b.2] at b1
          rw [IntKind.wrap_i64]
          omega
      obtain ⟨ad, hA, hbl, hcell⟩ := (HLX.out.below hb).at k hkl
      have he := (HLX.out.below hb).each m.log[k] (List.getElem_mem hkl)
      have hfew := HLX.out.few m.log[k] (List.getElem_mem hkl)
      obtain ⟨q, hq⟩ : ∃ q, q = m.log[k] := ⟨_, rfl⟩
      rw [← hq] at hcell he hfew
      have HQ := qh hq.symm
      have hlen : q.cells.length = 26 := En.S.cells_len q
      have HAll := qh hall
      have HB := qh hb
      have sz := hb.size
      subst hA
      have ltA : ad.block < wr.heap.size := by omega
      have q0 : (En.cells q.e q.sl)[0]? = some (.int .i64 q.e.frame) := En.cells_0 _ _
      have EB := qh (Box.made wr 53 (En.cells q.e q.sl))
      have EK := qh (HB.out.alloc sz (.cells (En.cells q.e q.sl) 53))
      have eb0 : (wr.alloc (.cells (En.cells q.e q.sl) 53)).cell? ⟨wr.heap.size, 0, none⟩ = some (.int .i64 q.e.frame) := (EB.out.cell 0).trans q0
      have cm := qh (enmay_any q.e q.adr q.e.evs.length q.cap (wr.alloc (.cells (En.cells q.e q.sl) 53)) rfl hfew (((he.below (Below.refl _ _)).below (EK.out.mono (Nat.le_refl _) |> fun _ => (one_below wr (.cells (En.cells q.e q.sl) 53)).mono sz)).wider (by simp; omega)))
      rw [show Value.slice q.adr q.e.evs.length q.cap = q.sl from rfl] at cm
      obtain ⟨z, hz⟩ : ∃ z, z = En.cells q.e q.sl := ⟨_, rfl⟩
      have hqz : q.cells.toArray = z := by rw [hz]; exact En.S.cells_arr q
      have HZ := qh hz
      by_cases hfe : q.e.frame = f + (k : Int)
      · by_cases hok : En.Ok q.e
        · rw [decide_eq_true hok] at cm
          have HO := qh hok
          have HFE := qh hfe
          have fe : (q.e.frame != f + (k : Int)) = false := by rw [hfe]; simp
          have fe2 : (q.e.frame == f + (k : Int)) = true := by rw [hfe]; simp
          clear hok hfe hall hb he hfew hq q0
          go_wp2_with (first | ((with_reducible refine load_at_gate rfl rfl Try.underlying53 rfl en_info ?_); apply LoadAt.mk rfl hcell hlen; rw [hqz, hz]) | (with_reducible refine alloc_en rfl rfl ?_) | (with_reducible refine en_store_new rfl rfl rfl rfl rfl rfl ?_) | ((refine en_load_g ?_ rfl ?_); (focus (simp [Region.wanted, yielded, fe, fe2]; done)); apply LoadEn.mk rfl; (focus (with_reducible exact EB.out)); dsimp only) | (go_at_call 57; ((with_reducible refine (cm.out).mono ?_); rintro e w1 ⟨rfl, hb1⟩; have K1 := qh (EK.out.trans (hb1.mono (by simp <;> omega))); clear hb1)))
          go_roundw
          case rel => exact ⟨k + 1, by omega, by go_num, fun j h h' => by
            by_cases e : j = k
            · subst e; rw [HQ.out]; exact ⟨HO.out, HFE.out⟩
            · exact HAll.out j h (by omega), K1.out⟩
          case measure => simp [intOf]; omega
        · rw [decide_eq_false hok] at cm
          have HO := qh hok
          have HFE := qh hfe
          have fe : (q.e.frame != f + (k : Int)) = false := by rw [hfe]; simp
          have fe2 : (q.e.frame == f + (k : Int)) = true := by rw [hfe]; simp
          clear hok hfe hall hb he hfew hq q0
          go_wp2_with (first | ((with_reducible refine load_at_gate rfl rfl Try.underlying53 rfl en_info ?_); apply LoadAt.mk rfl hcell hlen; rw [hqz, hz]) | (with_reducible refine alloc_en rfl rfl ?_) | (with_reducible refine en_store_new rfl rfl rfl rfl rfl rfl ?_) | ((refine en_load_g ?_ rfl ?_); (focus (simp [Region.wanted, yielded, fe, fe2]; done)); apply LoadEn.mk rfl; (focus (with_reducible exact EB.out)); dsimp only) | (go_at_call 57; ((with_reducible refine (cm.out).mono ?_); rintro e w1 ⟨rfl, hb1⟩; have K1 := qh (EK.out.trans (hb1.mono (by simp <;> omega))); clear hb1)))
          go_ret
          exact ⟨ret_bool (by rw [HR.out]; exact Ms.logOkB_no fun h => by have h1 := h k hkl; rw [HQ.out] at h1; exact HO.out h1.1), K1.out⟩
      · have HFE := qh hfe
        have fe : (q.e.frame != f + (k : Int)) = true := by simpa using hfe
        have fe2 : (q.e.frame == f + (k : Int)) = false := by simpa using hfe
        clear hfe hall hb he hfew hq q0 cm
        go_wp2_with (first | ((with_reducible refine load_at_gate rfl rfl Try.underlying53 rfl en_info ?_); apply LoadAt.mk rfl hcell hlen; rw [hqz, hz]) | (with_reducible refine alloc_en rfl rfl ?_) | (with_reducible refine en_store_new rfl rfl rfl rfl rfl rfl ?_))
        go_ret
        exact ⟨ret_bool (by rw [HR.out]; exact Ms.logOkB_no fun h => by have h1 := h k hkl; rw [HQ.out, ← HF.out] at h1; exact HFE.out h1.2), EK.out⟩
    · have hk8 : ¬ (k : Int) < n := by omega
      obtain rfl : k = n := by omega
      have HAll := qh hall
      have HB := qh hb
      clear hall hb
      go_wp2
      go_ret
      exact ⟨ret_bool (by rw [HR.out]; exact (Ms.logOkB_iff.2 fun j h => by rw [← HF.out]; exact HAll.out j h (by have := HN.out; omega)).symm), HB.out⟩
theorem numB_part {B : Bool} {w v lo hi : Int} (hw : w ≠ 0) : Ms.numB (if B then w else 0) v lo hi = true ↔ ((B = true ∧ lo ≤ v ∧ v ≤ hi) ∨ (B = false ∧ v = 0)) := by
  cases B
  · simp [Ms.numB]
  · simp [Ms.numB, hw]
theorem bitB_part {B : Bool} {w v : Int} (hw : w ≠ 0) : (((if B then w else 0) != 0) || (v == 0)) = true ↔ ((B = true) ∨ (B = false ∧ v = 0)) := by
  cases B
  · simp
  · simp [hw]
theorem no1_iff {m : Ms.M} : Ms.no1 m = false ↔ (1 ≤ m.kind ∧ m.kind ≤ 14) ∧ (0 ≤ m.frm ∧ m.frm < 12) ∧ Ms.bare m = true ∧ (0 ≤ m.slot ∧ m.slot ≤ 7) ∧ (0 ≤ m.frame ∧ m.frame ≤ 1048576) ∧ (0 ≤ m.code ∧ m.code ≤ 9) ∧ (0 ≤ m.n ∧ m.n ≤ 65535) := by
  unfold Ms.no1
  simp only [Bool.or_eq_false_iff, decide_eq_false_iff_not, Bool.not_eq_eq_eq_not, Bool.not_false]
  generalize Ms.bare m = b
  constructor
  · rintro ⟨⟨⟨⟨⟨⟨⟨⟨⟨⟨⟨⟨h1, h2⟩, h3⟩, h4⟩, h5⟩, h6⟩, h7⟩, h8⟩, h9⟩, h10⟩, h11⟩, h12⟩, h13⟩
    exact ⟨by omega, by omega, h5, by omega, by omega, by omega, by omega⟩
  · rintro ⟨h1, h2, h5, h6, h7, h8, h9⟩
    exact ⟨⟨⟨⟨⟨⟨⟨⟨⟨⟨⟨⟨by omega, by omega⟩, by omega⟩, by omega⟩, h5⟩, by omega⟩, by omega⟩, by omega⟩, by omega⟩, by omega⟩, by omega⟩, by omega⟩, by omega⟩
theorem bare_iff {m : Ms.M} : Ms.bare m = true ↔ ((Ms.has m.kind).contains 115 = true ∨ m.slot = 0) ∧ ((Ms.has m.kind).contains 103 = true ∨ m.gen = 0) ∧ ((Ms.has m.kind).contains 102 = true ∨ m.frame = 0) ∧ ((Ms.has m.kind).contains 99 = true ∨ m.code = 0) ∧ ((Ms.has m.kind).contains 110 = true ∨ m.n = 0) ∧ ((Ms.has m.kind).contains 111 = true ∨ m.of = 0) ∧ ((Ms.has m.kind).contains 98 = true ∨ m.bits = 0) ∧ ((Ms.has m.kind).contains 109 = true ∨ m.sum = 0) ∧ ((Ms.has m.kind).contains 105 = true ∨ (m.ins.length : Int) = 0) ∧ ((Ms.has m.kind).contains 108 = true ∨ (m.log.length : Int) = 0) ∧ ((Ms.has m.kind).contains 100 = true ∨ (m.data.length : Int) = 0) := by
  unfold Ms.bare Ms.bareOf
  simp only [Bool.and_eq_true, Bool.or_eq_true, beq_iff_eq, and_assoc]
theorem mayP_iff {m : Ms.M} (hn : En.i64 m.n) : Ms.mayP (Ms.own m.kind) m = true ↔ (((Ms.has m.kind).contains 115 = true ∧ 0 ≤ m.slot ∧ m.slot ≤ 7) ∨ ((Ms.has m.kind).contains 115 = false ∧ m.slot = 0)) ∧ (((Ms.has m.kind).contains 103 = true ∧ 1 ≤ m.gen ∧ m.gen ≤ 60000) ∨ ((Ms.has m.kind).contains 103 = false ∧ m.gen = 0)) ∧ (((Ms.has m.kind).contains 102 = true ∧ 0 ≤ m.frame ∧ m.frame ≤ 1048576) ∨ ((Ms.has m.kind).contains 102 = false ∧ m.frame = 0)) ∧ (((Ms.has m.kind).contains 99 = true ∧ 0 ≤ m.code ∧ m.code ≤ 9) ∨ ((Ms.has m.kind).contains 99 = false ∧ m.code = 0)) ∧ (((Ms.has m.kind).contains 110 = true ∧ 0 ≤ m.n ∧ m.n ≤ 65535) ∨ ((Ms.has m.kind).contains 110 = false ∧ m.n = 0)) ∧ (((Ms.has m.kind).contains 111 = true ∧ m.n + 1 ≤ m.of ∧ m.of ≤ 65535) ∨ ((Ms.has m.kind).contains 111 = false ∧ m.of = 0)) ∧ (((Ms.has m.kind).contains 98 = true) ∨ ((Ms.has m.kind).contains 98 = false ∧ m.bits = 0)) ∧ (((Ms.has m.kind).contains 109 = true) ∨ ((Ms.has m.kind).contains 109 = false ∧ m.sum = 0)) ∧ (((Ms.has m.kind).contains 105 = true ∧ 1 ≤ (m.ins.length : Int) ∧ (m.ins.length : Int) ≤ 16) ∨ ((Ms.has m.kind).contains 105 = false ∧ (m.ins.length : Int) = 0)) ∧ (((Ms.has m.kind).contains 108 = true ∧ 1 ≤ (m.log.length : Int) ∧ (m.log.length : Int) ≤ 16) ∨ ((Ms.has m.kind).contains 108 = false ∧ (m.log.length : Int) = 0)) ∧ (((Ms.has m.kind).contains 100 = true ∧ 1 ≤ (m.data.length : Int) ∧ (m.data.length : Int) ≤ 64) ∨ ((Ms.has m.kind).contains 100 = false ∧ (m.data.length : Int) = 0)) := by
  unfold Ms.mayP
  rw [Ms.own_1, Ms.own_2, Ms.own_4, Ms.own_8, Ms.own_16, Ms.own_32, Ms.own_64, Ms.own_128, Ms.own_256, Ms.own_512, Ms.own_1024]
  simp only [Bool.and_eq_true, numB_part (show (1 : Int) ≠ 0 by decide), numB_part (show (2 : Int) ≠ 0 by decide), numB_part (show (4 : Int) ≠ 0 by decide), numB_part (show (8 : Int) ≠ 0 by decide), numB_part (show (16 : Int) ≠ 0 by decide), numB_part (show (32 : Int) ≠ 0 by decide), bitB_part (show (64 : Int) ≠ 0 by decide), bitB_part (show (128 : Int) ≠ 0 by decide), numB_part (show (256 : Int) ≠ 0 by decide), numB_part (show (512 : Int) ≠ 0 by decide), numB_part (show (1024 : Int) ≠ 0 by decide), and_assoc]
  have hw : (((Ms.has m.kind).contains 110 = true ∧ 0 ≤ m.n ∧ m.n ≤ 65535) ∨ ((Ms.has m.kind).contains 110 = false ∧ m.n = 0)) → IntKind.i64.wrap (m.n + 1) = m.n + 1 := fun h => by rw [IntKind.wrap_i64]; omega
  constructor
  · rintro ⟨h1, h2, h3, h4, h5, h6, h7⟩
    rw [hw h5] at h6
    exact ⟨h1, h2, h3, h4, h5, h6, h7⟩
  · rintro ⟨h1, h2, h3, h4, h5, h6, h7⟩
    rw [hw h5]
    exact ⟨h1, h2, h3, h4, h5, h6, h7⟩
theorem mayW_iff {m : Ms.M} (hn : En.i64 m.n) : Ms.mayW m (Ms.insB m) (Ms.logOkB m) = true ↔ Ms.Ok m := by
  have hP := mayP_iff hn
  have h1 := @no1_iff m
  have hb := @bare_iff m
  unfold Ms.mayW Ms.isKind
  simp only [Bool.and_eq_true, decide_eq_true_eq, hP, Ms.insB_iff, Ms.logOkB_iff]
  constructor
  · rintro ⟨⟨⟨⟨⟨⟨k1, k2⟩, f1⟩, f2⟩, s115, s103, s102, s99, s110, s111, s98, s109, s105, s108, s100⟩, hi⟩, hl⟩
    have bb : Ms.bare m = true := hb.2 ⟨by rcases s115 with h | h; exact .inl (by first | exact h.1 | exact h); exact .inr h.2, by rcases s103 with h | h; exact .inl (by first | exact h.1 | exact h); exact .inr h.2, by rcases s102 with h | h; exact .inl (by first | exact h.1 | exact h); exact .inr h.2, by rcases s99 with h | h; exact .inl (by first | exact h.1 | exact h); exact .inr h.2, by rcases s110 with h | h; exact .inl (by first | exact h.1 | exact h); exact .inr h.2, by rcases s111 with h | h; exact .inl (by first | exact h.1 | exact h); exact .inr h.2, by rcases s98 with h | h; exact .inl (by first | exact h.1 | exact h); exact .inr h.2, by rcases s109 with h | h; exact .inl (by first | exact h.1 | exact h); exact .inr h.2, by rcases s105 with h | h; exact .inl (by first | exact h.1 | exact h); exact .inr h.2, by rcases s108 with h | h; exact .inl (by first | exact h.1 | exact h); exact .inr h.2, by rcases s100 with h | h; exact .inl (by first | exact h.1 | exact h); exact .inr h.2⟩
    refine ⟨h1.2 ⟨⟨k1, k2⟩, ⟨f1, f2⟩, bb, by omega, by omega, by omega, by omega⟩, ?_, ?_, hi, hl⟩
    · unfold Ms.no2
      simp only [Bool.or_eq_false_iff, Bool.and_eq_false_iff, decide_eq_false_iff_not]
      refine ⟨⟨?_, ?_⟩, ?_⟩
      · rcases s103 with h | h
        · exact .inr ⟨by omega, by omega⟩
        · exact .inl h.1
      · rcases s111 with h | h
        · exact .inr ⟨⟨by omega, by omega⟩, by omega⟩
        · exact .inl h.1
      · rcases s100 with h | h
        · exact .inr ⟨by omega, by omega⟩
        · exact .inl h.1
    · unfold Ms.no3
      simp only [Bool.or_eq_false_iff, Bool.and_eq_false_iff, decide_eq_false_iff_not]
      refine ⟨?_, ?_⟩
      · rcases s105 with h | h
        · exact .inr ⟨by omega, by omega⟩
        · exact .inl h.1
      · rcases s108 with h | h
        · exact .inr ⟨by omega, by omega⟩
        · exact .inl h.1
  · rintro ⟨n1, n2, n3, hi, hl⟩
    obtain ⟨hk, hf, bb, b1, b2, b3, b4⟩ := h1.1 n1
    obtain ⟨z115, z103, z102, z99, z110, z111, z98, z109, z105, z108, z100⟩ := hb.1 bb
    unfold Ms.no2 at n2
    unfold Ms.no3 at n3
    simp only [Bool.or_eq_false_iff, Bool.and_eq_false_iff, decide_eq_false_iff_not] at n2 n3
    obtain ⟨⟨g103, g111⟩, g100⟩ := n2
    obtain ⟨g105, g108⟩ := n3
    refine ⟨⟨⟨⟨⟨hk, hf.1⟩, hf.2⟩, ?_, ?_, ?_, ?_, ?_, ?_, ?_, ?_, ?_, ?_, ?_⟩, hi⟩, hl⟩
    · cases e : (Ms.has m.kind).contains 115
      · exact .inr ⟨rfl, by rcases z115 with h | h; rw [e] at h; cases h; exact h⟩
      · exact .inl ⟨rfl, by omega, by omega⟩
    · cases e : (Ms.has m.kind).contains 103
      · exact .inr ⟨rfl, by rcases z103 with h | h; rw [e] at h; cases h; exact h⟩
      · refine .inl ⟨rfl, ?_⟩
        rcases g103 with g | g
        · rw [e] at g; cases g
        · omega
    · cases e : (Ms.has m.kind).contains 102
      · exact .inr ⟨rfl, by rcases z102 with h | h; rw [e] at h; cases h; exact h⟩
      · exact .inl ⟨rfl, by omega, by omega⟩
    · cases e : (Ms.has m.kind).contains 99
      · exact .inr ⟨rfl, by rcases z99 with h | h; rw [e] at h; cases h; exact h⟩
      · exact .inl ⟨rfl, by omega, by omega⟩
    · cases e : (Ms.has m.kind).contains 110
      · exact .inr ⟨rfl, by rcases z110 with h | h; rw [e] at h; cases h; exact h⟩
      · exact .inl ⟨rfl, by omega, by omega⟩
    · cases e : (Ms.has m.kind).contains 111
      · exact .inr ⟨rfl, by rcases z111 with h | h; rw [e] at h; cases h; exact h⟩
      · refine .inl ⟨rfl, ?_⟩
        rcases g111 with g | g
        · rw [e] at g; cases g
        · omega
    · cases e : (Ms.has m.kind).contains 98
      · exact .inr ⟨rfl, by rcases z98 with h | h; rw [e] at h; cases h; exact h⟩
      · exact .inl rfl
    · cases e : (Ms.has m.kind).contains 109
      · exact .inr ⟨rfl, by rcases z109 with h | h; rw [e] at h; cases h; exact h⟩
      · exact .inl rfl
    · cases e : (Ms.has m.kind).contains 105
      · exact .inr ⟨rfl, by rcases z105 with h | h; rw [e] at h; cases h; exact h⟩
      · refine .inl ⟨rfl, ?_⟩
        rcases g105 with g | g
        · rw [e] at g; cases g
        · omega
    · cases e : (Ms.has m.kind).contains 108
      · exact .inr ⟨rfl, by rcases z108 with h | h; rw [e] at h; cases h; exact h⟩
      · refine .inl ⟨rfl, ?_⟩
        rcases g108 with g | g
        · rw [e] at g; cases g
        · omega
    · cases e : (Ms.has m.kind).contains 100
      · exact .inr ⟨rfl, by rcases z100 with h | h; rw [e] at h; cases h; exact h⟩
      · refine .inl ⟨rfl, ?_⟩
        rcases g100 with g | g
        · rw [e] at g; cases g
        · omega
theorem mayW_is {m : Ms.M} (hn : En.i64 m.n) : Ms.mayW m (Ms.insB m) (Ms.logOkB m) = Ms.okB m := by
  rw [Bool.eq_iff_iff, mayW_iff hn, Ms.okB_iff]
theorem wmay_any (q : Ms.S) (w : World) (hT : Ms.Ty q.m) (hL : LiesM w w.heap.size q) :
    Calls Try.prog 15 #[.agg q.cells] w fun e w' => e = .returned (.bool (Ms.okB q.m)) ∧ Below w.heap.size w w' := by
  have KB := qh (one_below w (.cells q.cells 29))
  have BX := qh (Box.made w 29 q.cells)
  have LF := qh (show q.m.ins.length ≤ maxLen ∧ q.m.log.length ≤ maxLen ∧ q.m.data.length ≤ maxLen from ⟨hL.fi, hL.fl, hL.fd⟩)
  have LI := qh hL.ins
  have LL := qh hL.log
  have TI := qh hT.ins
  have TF := qh hT.frame
  have TN := qh (mayW_is hT.n)
  have cp := fun X => qh (partsof_any q.m.kind X)
  clear hT hL
  go_enter Try.func15, Try.ntmps15
  go_upto_region 1 with fail
  generalize hW : w.alloc (.cells q.cells 29) = W0 at *
  have k0 : W0.cell? ⟨w.heap.size, 0, none⟩ = some (.int .i64 q.m.kind) := BX.out.cell 0
  obtain ⟨B, hBs⟩ : ∃ B, B = w.heap.size := ⟨_, rfl⟩
  rw [← hBs] at BX
  clear hW
  go_upto_region 2 with (go_at_call 34; ((with_reducible refine ((cp _).out).mono ?_); rintro e wp ⟨rfl, rfl⟩))
  clear k0 cp
  refine Slim.forget 39 rfl rfl fun a0 S D hf => ?_
  have H1 : Slim.Has a0 1 true (.pointer (some ⟨B, 0, none⟩)) := by rw [hBs]; exact hf 1 _ rfl
  have H3 : Slim.Has a0 3 true (.int .i64 (Ms.own q.m.kind)) := hf 3 _ rfl
  have H4 : Slim.Has a0 4 true (.bool (Ms.isKind q.m.kind)) := hf 4 _ rfl
  clear hf hBs
  refine wp_region_lit ?_
  refine Slim.va rfl rfl S D (Slim.move_g rfl H4 id) fun a1 o S D H11 => ?_
  replace H1 := o.st H1
  replace H3 := o.st H3
  clear H4 o
  refine Slim.va rfl rfl S D (Slim.move_g rfl H11 id) fun a2 o S D H12 => ?_
  replace H1 := o.st H1
  replace H3 := o.st H3
  clear H11 o
  refine Slim.vg (v := .pointer (some ⟨B, 1, none⟩)) rfl S D rfl rfl H12 (Slim.field_g rfl H1 (fun _ => rfl) (by go_simp; first | done | rfl)) fun a3 o S D H13 => ?_
  replace H1 := o.st H1
  replace H3 := o.st H3
  replace H12 := o.st H12
  refine Slim.vg (v := .int .i64 q.m.frm) rfl S D rfl rfl H12 (Slim.load_g rfl H13 id (by have k := BX.out.cell 1; go_simp; first | done | rfl)) fun a4 o S D H14 => ?_
  replace H1 := o.st H1
  replace H3 := o.st H3
  replace H12 := o.st H12
  clear H13 o
  refine Slim.vg rfl S D rfl rfl H12 (Slim.binl_g rfl H14 id (fun _ _ => Slim.cmp_leq)) fun a5 o S D H15 => ?_
  replace H1 := o.st H1
  replace H3 := o.st H3
  replace H12 := o.st H12
  clear H14 o
  refine Slim.va rfl rfl S D (Slim.and_g rfl H12 H15 id (fun h1 h2 => Bool.and_eq_true_iff.2 ⟨h1, by rw [h2]; rfl⟩)) fun a6 o S D H16 => ?_
  replace H1 := o.st H1
  replace H3 := o.st H3
  clear H12 H15 o
  refine Slim.va rfl rfl S D (Slim.move_g rfl H16 id) fun a7 o S D H17 => ?_
  replace H1 := o.st H1
  replace H3 := o.st H3
  clear H16 o
  refine Slim.vg (v := .pointer (some ⟨B, 1, none⟩)) rfl S D rfl rfl H17 (Slim.field_g rfl H1 (fun _ => rfl) (by go_simp; first | done | rfl)) fun a8 o S D H18 => ?_
  replace H1 := o.st H1
  replace H3 := o.st H3
  replace H17 := o.st H17
  refine Slim.vg (v := .int .i64 q.m.frm) rfl S D rfl rfl H17 (Slim.load_g rfl H18 id (by have k := BX.out.cell 1; go_simp; first | done | rfl)) fun a9 o S D H19 => ?_
  replace H1 := o.st H1
  replace H3 := o.st H3
  replace H17 := o.st H17
  clear H18 o
  refine Slim.vg rfl S D rfl rfl H17 (Slim.bin_g rfl H19 id (fun _ _ => Slim.cmp_lss)) fun a10 o S D H20 => ?_
  replace H1 := o.st H1
  replace H3 := o.st H3
  replace H17 := o.st H17
  clear H19 o
  refine Slim.va rfl rfl S D (Slim.and_g rfl H17 H20 id (fun h1 h2 => Bool.and_eq_true_iff.2 ⟨h1, by rw [h2]; rfl⟩)) fun a11 o S D H21 => ?_
  replace H1 := o.st H1
  replace H3 := o.st H3
  clear H17 H20 o
  refine Slim.va rfl rfl S D (Slim.move_g rfl H21 id) fun a12 o S D H22 => ?_
  replace H1 := o.st H1
  replace H3 := o.st H3
  clear H21 o
  refine Slim.vg rfl S D rfl rfl H22 (Slim.move_g rfl H3 (fun _ => rfl)) fun a13 o S D H23 => ?_
  replace H1 := o.st H1
  replace H22 := o.st H22
  clear H3 o
  refine Slim.vg (v := .agg q.cells) rfl S D rfl rfl H22 (Slim.load_g rfl H1 (fun _ => rfl) (Slim.load_whole BX.out.is Try.underlying29 rfl msg_info)) fun a14 o S D H24 => ?_
  replace H1 := o.st H1
  replace H22 := o.st H22
  replace H23 := o.st H23
  clear o
  refine Slim.call_g (t := 25) (c := (true && ((((Ms.isKind q.m.kind) && (decide (0 ≤ q.m.frm))) && (decide (q.m.frm < 12))) == true))) (v := .bool (Ms.mayP (Ms.own q.m.kind) q.m)) rfl (by rw [S]; decide) (Slim.wanted_g rfl rfl H22) (Slim.calls22_g rfl H23 H24 id id (by go_simp; first | done | rfl)) (fun _ => mayparts_any _ q _ LF.out.1 LF.out.2.1 LF.out.2.2) fun a15 W1 o hb => ?_
  replace BX := qh (BX.out.below hb BX.out.lt); replace KB := qh (KB.out.trans (hb.mono KB.out.size)); clear hb
  replace S := o.size.trans S; replace D := o.defers.trans D
  replace H1 := o.st H1
  replace H22 := o.st H22
  have H25 : Slim.Has a15 25 (true && ((((Ms.isKind q.m.kind) && (decide (0 ≤ q.m.frm))) && (decide (q.m.frm < 12))) == true)) (.bool (Ms.mayP (Ms.own q.m.kind) q.m)) := o.here
  clear H23
  clear H24
  refine Slim.va rfl rfl S D (Slim.and_g rfl H22 H25 id (fun h1 h2 => Bool.and_eq_true_iff.2 ⟨h1, by rw [h2]; rfl⟩)) fun a16 o S D H26 => ?_
  replace H1 := o.st H1
  clear H22 H25 o
  refine Slim.va rfl rfl S D (Slim.move_g rfl H26 id) fun a17 o S D H27 => ?_
  replace H1 := o.st H1
  clear H26 o
  refine Slim.vg (v := .pointer (some ⟨B, 13, none⟩)) rfl S D rfl rfl H27 (Slim.field_g rfl H1 (fun _ => rfl) (by go_simp; first | done | rfl)) fun a18 o S D H28 => ?_
  replace H1 := o.st H1
  replace H27 := o.st H27
  refine Slim.vg (v := .slice q.ai q.m.ins.length q.ci) rfl S D rfl rfl H27 (Slim.load_g rfl H28 id (by have k := BX.out.cell 13; go_simp; first | done | rfl)) fun a19 o S D H29 => ?_
  replace H1 := o.st H1
  replace H27 := o.st H27
  clear H28 o
  refine Slim.call_g (t := 30) (c := (true && (((((Ms.isKind q.m.kind) && (decide (0 ≤ q.m.frm))) && (decide (q.m.frm < 12))) && (Ms.mayP (Ms.own q.m.kind) q.m)) == true))) (v := .bool (Ms.insB q.m)) rfl (by rw [S]; decide) (Slim.wanted_g rfl rfl H27) (Slim.calls1_g rfl H29 id (by go_simp; first | done | rfl)) (fun _ => mayinputs_any q.m q.ai q.ci _ LF.out.1 TI.out ((LI.out.below KB.out).wider KB.out.size)) fun a20 W2 o hb => ?_
  replace BX := qh (BX.out.below hb BX.out.lt); replace KB := qh (KB.out.trans (hb.mono KB.out.size)); clear hb
  replace S := o.size.trans S; replace D := o.defers.trans D
  replace H1 := o.st H1
  replace H27 := o.st H27
  have H30 : Slim.Has a20 30 (true && (((((Ms.isKind q.m.kind) && (decide (0 ≤ q.m.frm))) && (decide (q.m.frm < 12))) && (Ms.mayP (Ms.own q.m.kind) q.m)) == true)) (.bool (Ms.insB q.m)) := o.here
  clear H29
  refine Slim.va rfl rfl S D (Slim.and_g rfl H27 H30 id (fun h1 h2 => Bool.and_eq_true_iff.2 ⟨h1, by rw [h2]; rfl⟩)) fun a21 o S D H31 => ?_
  replace H1 := o.st H1
  clear H27 H30 o
  refine Slim.va rfl rfl S D (Slim.move_g rfl H31 id) fun a22 o S D H32 => ?_
  replace H1 := o.st H1
  clear H31 o
  refine Slim.vg (v := .pointer (some ⟨B, 7, none⟩)) rfl S D rfl rfl H32 (Slim.field_g rfl H1 (fun _ => rfl) (by go_simp; first | done | rfl)) fun a23 o S D H33 => ?_
  replace H1 := o.st H1
  replace H32 := o.st H32
  refine Slim.vg (v := .int .i64 q.m.frame) rfl S D rfl rfl H32 (Slim.load_g rfl H33 id (by have k := BX.out.cell 7; go_simp; first | done | rfl)) fun a24 o S D H34 => ?_
  replace H1 := o.st H1
  replace H32 := o.st H32
  clear H33 o
  refine Slim.vg (v := .pointer (some ⟨B, 14, none⟩)) rfl S D rfl rfl H32 (Slim.field_g rfl H1 (fun _ => rfl) (by go_simp; first | done | rfl)) fun a25 o S D H35 => ?_
  replace H32 := o.st H32
  replace H34 := o.st H34
  clear H1 o
  refine Slim.vg (v := .slice q.al q.m.log.length q.cl) rfl S D rfl rfl H32 (Slim.load_g rfl H35 id (by have k := BX.out.cell 14; go_simp; first | done | rfl)) fun a26 o S D H36 => ?_
  replace H32 := o.st H32
  replace H34 := o.st H34
  clear H35 o
  refine Slim.call_g (t := 37) (c := (true && ((((((Ms.isKind q.m.kind) && (decide (0 ≤ q.m.frm))) && (decide (q.m.frm < 12))) && (Ms.mayP (Ms.own q.m.kind) q.m)) && (Ms.insB q.m)) == true))) (v := .bool (Ms.logOkB q.m)) rfl (by rw [S]; decide) (Slim.wanted_g rfl rfl H32) (Slim.calls22_g rfl H34 H36 id id (by go_simp; first | done | rfl)) (fun _ => maylog_any q.m q.al q.cl _ TF.out LF.out.2.1 ((LL.out.below KB.out).wider KB.out.size)) fun a27 W3 o hb => ?_
  replace BX := qh (BX.out.below hb BX.out.lt); replace KB := qh (KB.out.trans (hb.mono KB.out.size)); clear hb
  replace S := o.size.trans S; replace D := o.defers.trans D
  replace H32 := o.st H32
  have H37 : Slim.Has a27 37 (true && ((((((Ms.isKind q.m.kind) && (decide (0 ≤ q.m.frm))) && (decide (q.m.frm < 12))) && (Ms.mayP (Ms.own q.m.kind) q.m)) && (Ms.insB q.m)) == true)) (.bool (Ms.logOkB q.m)) := o.here
  clear H34
  clear H36
  refine Slim.va rfl rfl S D (Slim.and_g rfl H32 H37 id (fun h1 h2 => Bool.and_eq_true_iff.2 ⟨h1, by rw [h2]; rfl⟩)) fun a28 o S D H38 => ?_
  clear H32 H37 o
  refine Slim.va rfl rfl S D (Slim.assign_g rfl H38 id) fun a29 o S D H2 => ?_
  clear H38 o
  refine wpList_nil ?_
  refine (by assumption : ∀ a w, Code.wp Try.prog _ _ a w → _) _ _ ?_
  refine wp_ret ?_
  (try simp only [Exit.inBlock, Exit.then])
  exact on_ret rfl D H2 ⟨by rw [← TN.out]; rfl, KB.out⟩
end Go.Proofs.Ytgmlbimgcifenaa
namespace Go.Proofs.Ytgmlbimgcifenaa
open Go.RowKit
theorem bytes_at {w : World} {B n : Nat} {A : Option Addr} {l : List Int} (h : Lies w B 1 A n (Im.u8s l)) (k : Nat) (hk : k < l.length) : ∃ ad, A = some ad ∧ w.cell? (ad.add k) = some (.int .u8 (l.getD k 0)) := by
  have hn : l.length = n := by have := h.len; rw [Im.u8s_len] at this; omega
  obtain ⟨ad, rfl, hb⟩ := h.start (by omega)
  refine ⟨ad, rfl, h.cell ad rfl (by omega) k _ ?_⟩
  unfold Im.u8s
  rw [List.getElem?_map, List.getElem?_eq_getElem hk]
  simp [hk]
theorem wcheck_any (l : List Int) (A : Option Addr) (n c : Nat) (w : World) (hB : Im.IsBytes l) (hl : n ≤ maxLen) (hL : Lies w w.heap.size 1 A n (Im.u8s l)) :
    Calls Try.prog 23 #[.slice A n c] w fun e w' => e = .returned (.int .u32 (Crc.sum l : Nat)) ∧ w = w' := by
  have hn : l.length = n := by have := hL.len; rw [Im.u8s_len] at this; omega
  subst hn
  unfold maxLen at hl
  have hat := qh (fun (k : Nat) (h : k < l.length) => bytes_at hL k h)
  have hlt := qh (fun k => Crc.upto_lt hB k)
  have HB := qh hB
  clear hB
  clear hL
  go_enter Try.func23, Try.ntmps23
  go_wp2
  go_loop [3, 5, 6, 9, 18] (fun c o t i k => ∃ j : Nat, j ≤ l.length ∧ i = .int .i64 j ∧ c = .int .u32 ((Crc.upto l j : Nat) : Int)) (fun _ _ _ i _ => l.length - (intOf i).toNat)
  case atStart => exact ⟨0, Nat.zero_le _, rfl, rfl⟩
  case round =>
    obtain ⟨j, hj, rfl, rfl⟩ := hrel
    by_cases hlt2 : j < l.length
    · have hjs : (j : Int) < (l.length : Int) := by omega
      obtain ⟨ad, rfl, hc⟩ := hat.out j hlt2
      have hby := HB.out (l.getD j 0) (by
        have e : l.getD j 0 = l[j] := by simp [hlt2]
        rw [e]; exact List.getElem_mem hlt2)
      obtain ⟨X, hX⟩ : ∃ X : Nat, X = (l.getD j 0).toNat := ⟨_, rfl⟩
      have hcx : l.getD j 0 = (X : Int) := by rw [hX]; omega
      rw [hcx] at hc
      have hX255 : X ≤ 255 := by omega
      have HN := qh (show Crc.upto l (j + 1) = Crc.byte (Crc.upto l j) X from by rw [hX]; exact Crc.upto_next l j hlt2)
      have hcl := hlt.out j
      generalize Crc.upto l j = c at *
      have hxor : bits .xor .u32 (c : Int) ((X : Int) * 16777216) = ((c ^^^ X * 16777216 : Nat) : Int) := by
        rw [show (X : Int) * 16777216 = ((X * 16777216 : Nat) : Int) by omega]
        exact u32_xor_nat _ _ hcl (by omega)
      have hYl : c ^^^ X * 16777216 < 4294967296 := Nat.xor_lt_two_pow (n := 32) hcl (by omega)
      have HB8 : Crc.byte c X = Crc.steps 8 (c ^^^ X * 16777216) := rfl
      rw [HB8] at HN
      clear hby hX HB8 hcx
      generalize c ^^^ X * 16777216 = Y at *
      have HXO := qh hxor
      clear hxor
      go_wp2
      go_loop [3, 6, 18] (fun c t i => ∃ m : Nat, m ≤ 8 ∧ i = .int .i64 m ∧ c = .int .u32 ((Crc.steps m Y : Nat) : Int)) (fun _ _ i => 8 - (intOf i).toNat)
      case atStart => exact ⟨0, Nat.zero_le _, rfl, by rw [HXO.out]; rfl⟩
      case round =>
        obtain ⟨m, hm, rfl, rfl⟩ := hrel
        have hsl := Crc.steps_lt m hYl
        have HS := qh (show Crc.steps (m + 1) Y = Crc.step (Crc.steps m Y) from rfl)
        by_cases hm8 : m < 8
        · have hm8' : (m : Int) < 8 := by omega
          generalize Crc.steps m Y = N at *
          cases hb : N.testBit 31
          · have hst : Crc.step N = N * 2 % 4294967296 := by unfold Crc.step; rw [hb, if_neg (by decide)]
            have hdiv : (N : Int) / 2147483648 = 0 := by
              have : N / 2147483648 = 0 := Crc.top_no hb hsl
              omega
            rw [hst] at HS
            have hN31 : N * 2 < 4294967296 := by omega
            rw [Nat.mod_eq_of_lt hN31] at HS
            have hx2 := u32_xor_nat (N * 2) 0 hN31 (by decide)
            rw [Nat.xor_zero] at hx2
            have HX := qh hx2
            clear hst hx2
            go_wp2
            go_round
            case rel => exact ⟨m + 1, by omega, by go_num, by rw [HS.out, ← HX.out]; rfl⟩
            case measure => simp [intOf]; omega
          · have hst : Crc.step N = (N * 2 % 4294967296) ^^^ 1947962583 := by unfold Crc.step; rw [hb, if_pos rfl]; rfl
            have hdiv : (N : Int) / 2147483648 = 1 := by
              have : N / 2147483648 = 1 := Crc.top_yes hb hsl
              omega
            have hx2 := u32_xor_nat (N * 2 % 4294967296) 1947962583 (Nat.mod_lt _ (by decide)) (by decide)
            rw [hst] at HS
            have HX := qh hx2
            clear hst hx2
            go_wp2
            go_round
            case rel => exact ⟨m + 1, by omega, by go_num, by rw [HS.out, ← HX.out]; rfl⟩
            case measure => simp [intOf]; omega
        · obtain rfl : m = 8 := by omega
          clear HS
          rw [← HN.out]
          go_wp2
          go_round
          case rel => exact ⟨j + 1, by omega, by go_num, rfl⟩
          case measure => simp [intOf]; omega
    · obtain rfl : j = l.length := by omega
      rw [Crc.upto_all]
      have hjs : ¬ (l.length : Int) < (l.length : Int) := by omega
      go_wp2
      go_ret
      exact ⟨rfl, rfl⟩
end Go.Proofs.Ytgmlbimgcifenaa
namespace Ms
open Im
theorem app_bytes {a b : List Int} (ha : IsBytes a) (hb : IsBytes b) : IsBytes (a ++ b) := fun x hx => (List.mem_append.1 hx).elim (ha x) (hb x)
theorem flat_bytes {α : Type} {f : α → List Int} : ∀ (l : List α), (∀ a ∈ l, IsBytes (f a)) → IsBytes (l.flatMap f) := fun l h x hx => by
  obtain ⟨a, ha, hx⟩ := List.mem_flatMap.1 hx
  exact h a ha x hx
theorem part_bytes {m : M} (hT : Ty m) (c : Int) : IsBytes (part m c) := by
  have hin : IsBytes (Im.bytesOf 1 (m.ins.length : Int) ++ m.ins.flatMap En.inBytes) := app_bytes (bytesOf_bytes _ _) (flat_bytes _ fun p _ => by unfold En.inBytes; exact app_bytes (bytesOf_bytes _ _) (app_bytes (bytesOf_bytes _ _) (bytesOf_bytes _ _)))
  have hlo : IsBytes (Im.bytesOf 1 (m.log.length : Int) ++ m.log.flatMap logBytes) := app_bytes (bytesOf_bytes _ _) (flat_bytes _ fun e _ => app_bytes (bytesOf_bytes _ _) (En.put_bytes e.e))
  have hda : IsBytes (Im.bytesOf 1 (m.data.length : Int) ++ m.data) := app_bytes (bytesOf_bytes _ _) hT.data
  unfold part
  repeat' split
  all_goals first | exact bytesOf_bytes _ _ | assumption
theorem body_bytes {m : M} (hT : Ty m) : IsBytes (body m) := by
  unfold body head
  exact app_bytes (app_bytes (app_bytes (app_bytes (app_bytes (bytesOf_bytes _ _) (bytesOf_bytes _ _)) (bytesOf_bytes _ _)) (bytesOf_bytes _ _)) (bytesOf_bytes _ _)) (flat_bytes _ fun c _ => part_bytes hT c)
theorem put_bytes {m : M} (hT : Ty m) : IsBytes (put m) := app_bytes (bytesOf_bytes _ _) (body_bytes hT)
end Ms
namespace Go.Proofs.Ytgmlbimgcifenaa
open Go.RowKit Go.Shelf
theorem layu32_far (size : Nat) (x : Int) (P o : Nat) (t : TypeId) (cs : Array Value) (bs : List Int) (b Bb Bp : Nat) (w : World) (hs : size ≤ 8) (hx : 0 ≤ x ∧ x ≤ 4294967295) (hbB : b ≤ Bb) (h : Wr b Bb Bp bs w) (hl : bs.length + size ≤ 65536) (hP : Box w P t cs) (ho : cs[o]? = some (.int .u32 x)) (h1 : t ≠ 27) (h2 : t ≠ 5) (h3 : t ≠ 68) :
    Calls Try.prog 33 #[.func (.func 54) #[] #[.pointer (some ⟨Bp, 0, none⟩)], .int .i64 size, .pointer (some ⟨P, o, none⟩)] w fun e w' => e = .returned (.tuple #[]) ∧ Wr b Bb Bp (bs ++ Im.bytesOf size x) w' ∧ Wrote b Bb w w' ∧ FarK Bb w w' := by
  have hvx : IntKind.u64.wrap x = x := by rw [IntKind.wrap_u64]; omega
  have hwb : IntKind.u32.wrap x = x := by rw [IntKind.wrap_u32]; omega
  have cw := qh (write_far size x bs b Bb Bp w hs (by omega) hbB h hl)
  have HH := qh h
  have HP := qh hP
  have k0 := hP.cell o
  rw [ho] at k0
  have HO := qh ho
  clear h hP ho
  go_enter Try.func33, Try.ntmps33
  go_wp2_with (go_at_call 54; ((with_reducible refine (cw.out).mono ?_); rintro e w1 ⟨rfl, hI1, hK1, hF1⟩; have P1 := qh (HP.out.wrote' hK1 HH.out.isvar h1 h2); have I1 := qh hI1; have K1 := qh hK1; have F1 := qh hF1; have k1 := P1.out.cell o; rw [HO.out] at k1; have f1 := P1.out.free o; clear hI1 hK1 hF1 k0))
  go_end0
  have hB := fun k => setCell_noop P1.out HO.out k
  exact ⟨rfl, I1.out.off (p := ⟨P, o, none⟩) P1.out h3 h1 h2 _, K1.out.noop P1.out HO.out, fun g G hg hf => ⟨⟨(hB _).trans (F1.out g G hg hf).1.is⟩, fun A' n' c' h' => (F1.out g G hg hf).2 A' n' c' ⟨(hB _).symm.trans h'.is⟩⟩⟩
theorem wcatch_put (Bw Bb Bc : Nat) (u : TypeId) (pv : Value) (older : List PanicEntry) (w : World) (z : Int) (hw : Box w Bw 3 #[.int .i64 z]) (x : Value) (hb : Box w Bb 27 #[x]) (y : Int) (hc : Box w Bc 3 #[.int .i64 y]) :
    CallsD Try.prog 29 #[.pointer (some ⟨Bw, 0, none⟩), .pointer (some ⟨Bb, 0, none⟩), .pointer (some ⟨Bc, 0, none⟩)] (.panicking ({ v := .iface u pv, recovered := false } :: older)) w fun e u' w' =>
      e = .returned (.tuple #[]) ∧ u' = .panicking ({ v := .iface u pv, recovered := true } :: older) ∧ w' = (w.setCell ⟨Bb, 0, none⟩ (.slice none 0 0)).setCell ⟨Bc, 0, none⟩ (.int .i64 z) := by
  have ne : Bb ≠ Bc := Box.apart hb hc (by decide)
  have w0 := hw.cell 0
  have c1 := hb.cell 0
  have f1 := hb.free 0
  have c2 := hc.cell 0
  have f2 := hc.free 0
  refine callsD_of_wpS Try.func29 rfl fun c₀ cs hu => ?_
  apply wpS_seq
  apply wpS_region
  simp [wpOpsS, go_sem, recoverD, hu, Try.ntmps29, Exit.thenS]
  refine wpS_cond (t := true) (by simp [Act.eval, Array.replicate]) ?_
  simp only [if_true]
  apply wpS_region
  have c2' : (w.setCell ⟨Bb, 0, none⟩ (.slice none 0 0)).cell? ⟨Bc, 0, none⟩ = some (.int .i64 y) := (hc.far (p := ⟨Bb, 0, none⟩) (fun e => ne e.symm) _).cell 0
  have f2' : (w.setCell ⟨Bb, 0, none⟩ (.slice none 0 0)).frozen? ⟨Bc, 0, none⟩ = false := (hc.far (p := ⟨Bb, 0, none⟩) (fun e => ne e.symm) _).free 0
  simp [wpOpsS, go_sem, w0, c1, f1, c2', f2', bodyPostS, results, Try.results29]
theorem wcatch_idle_put (o p q : Addr) (w : World) :
    CallsD Try.prog 29 #[.pointer (some o), .pointer (some p), .pointer (some q)] .returning w fun e u' w' => e = .returned (.tuple #[]) ∧ u' = .returning ∧ w' = w := by
  refine callsD_of_wpS Try.func29 rfl fun c₀ cs hu => ?_
  apply wpS_seq
  apply wpS_region
  simp [wpOpsS, go_sem, recoverD, hu, Try.ntmps29, Exit.thenS]
  refine wpS_cond (t := false) (by simp [Act.eval, Array.replicate]) ?_
  simp only [Bool.false_eq_true, if_false]
  refine wpS_of_wp (wp_skip ?_)
  cases c₀
  simp_all [bodyPostS, results, Try.results29]
theorem msg_one (q : Ms.S) : q.cells.all (·.oneCell') = true := by
  unfold Ms.S.cells Ms.cells Ms.S.si Ms.S.sl Ms.S.sd
  simp [Value.oneCell']
theorem msg_info16 : (Try.prog.info? 29).map (·.size) = some 16 := by kernel_rfl
theorem LiesM.to {w X : World} {b : Nat} {q : Ms.S} (h : LiesM w b q) (hb : Below b w X) : LiesM X b q := ⟨h.ins.below hb, h.log.below hb, h.data.below hb, h.fi, h.fl, h.fd⟩
theorem LiesM.wide {w : World} {b b' : Nat} {q : Ms.S} (h : LiesM w b q) (hb : b ≤ b') : LiesM w b' q := ⟨h.ins.wider hb, h.log.wider hb, h.data.wider hb, h.fi, h.fl, h.fd⟩
theorem wput_no (q : Ms.S) (w : World) (hT : Ms.Ty q.m) (hno : ¬ Ms.Ok q.m) (hL : LiesM w w.heap.size q) :
    Calls Try.prog 14 #[.agg q.cells] w fun r w' => r = .returned (.tuple #[.slice none 0 0, .int .i64 1]) ∧ Below w.heap.size w w' := by
  have hmf : ∀ (fn : Fn) (first cap : Array Value) (w : World), (Instr.makeFunc fn first cap).run Try.prog w = .ok (.func fn first cap) w := fun _ _ _ _ => rfl
  obtain ⟨V, hV⟩ : ∃ V, V = ((((w.alloc (.cells q.cells 29)).alloc (.cells #[.slice none 0 0] 27)).alloc (.cells #[.int .i64 0] 3)).alloc (.cells #[.int .i64 1] 3)) := ⟨_, rfl⟩
  have P1 := qh (show Box V w.heap.size 29 q.cells by rw [hV]; exact (((Box.made w _ _).alloc _).alloc _).alloc _)
  have B1 := qh (show Box V (w.heap.size + 1) 27 #[.slice none 0 0] by rw [hV]; exact ((Box.made_at (n := w.heap.size + 1) (w.alloc (.cells q.cells 29)) _ _ (by simp)).alloc _).alloc _)
  have C1 := qh (show Box V (w.heap.size + 1 + 1) 3 #[.int .i64 0] by rw [hV]; exact (Box.made_at (n := w.heap.size + 1 + 1) ((w.alloc (.cells q.cells 29)).alloc (.cells #[.slice none 0 0] 27)) _ _ (by simp)).alloc _)
  have D1 := qh (show Box V (w.heap.size + 1 + 1 + 1) 3 #[.int .i64 1] by rw [hV]; exact Box.made_at (n := w.heap.size + 1 + 1 + 1) (((w.alloc (.cells q.cells 29)).alloc (.cells #[.slice none 0 0] 27)).alloc (.cells #[.int .i64 0] 3)) _ _ (by simp))
  have K1 := qh (show Below w.heap.size w V by rw [hV]; exact ((((Below.refl w.heap.size w).alloc (Nat.le_refl _) _).alloc (by simp) _).alloc (by simp <;> omega) _).alloc (by simp <;> omega) _)
  have HV := qh hV.symm
  have cm := qh (wmay_any q V hT ((hL.to K1.out).wide K1.out.size))
  rw [← Ms.okB_no hno] at cm
  clear hL hT hno hV
  go_enter_defers Try.func14, Try.ntmps14
  go_upto_region 3 with fail
  rw [HV.out]
  go_wp2_with (first | ((with_reducible refine load_at_gate rfl rfl Try.underlying29 rfl msg_info16 ?_); apply LoadAt.mk (cs := q.cells.toList) rfl (fun j v hv => by rw [addr_cell, Nat.zero_add, P1.out.cell]; simpa using hv) rfl; rw [Array.toArray_toList]) | (go_at_call 15; ((with_reducible refine (cm.out).mono ?_); rintro r w1 ⟨rfl, hb⟩; have D2 := qh (D1.out.below hb D1.out.lt); have C2 := qh (C1.out.below hb C1.out.lt); have B2 := qh (B1.out.below hb B1.out.lt); have K2 := qh (K1.out.trans (hb.mono K1.out.size)); clear hb)) | (go_at_call 30; ((with_reducible refine (need_no _ _).mono ?_); rintro r w2 ⟨rfl, rfl⟩)))
  refine leaves_cons (f := 29) (args := #[.pointer (some ⟨w.heap.size + 1 + 1 + 1, 0, none⟩), .pointer (some ⟨w.heap.size + 1, 0, none⟩), .pointer (some ⟨w.heap.size + 1 + 1, 0, none⟩)]) (by simp) (by simp [go_sem]) ?_
  refine (wcatch_put (w.heap.size + 1 + 1 + 1) (w.heap.size + 1) (w.heap.size + 1 + 1) _ _ [] _ _ D2.out _ B2.out _ C2.out).mono ?_
  have ne : w.heap.size + 1 ≠ w.heap.size + 1 + 1 := by omega
  have B4 := (B2.out.put 0 (.slice none 0 0)).far (p := ⟨w.heap.size + 1 + 1, 0, none⟩) ne (.int .i64 1)
  have C4 := (C2.out.far (p := ⟨w.heap.size + 1, 0, none⟩) (fun q => ne q.symm) (.slice none 0 0)).put 0 (.int .i64 1)
  have K4 := (K2.out.setCell (p := ⟨w.heap.size + 1, 0, none⟩) (Nat.le_succ _) (.slice none 0 0)).setCell (p := ⟨w.heap.size + 1 + 1, 0, none⟩) (by show w.heap.size ≤ w.heap.size + 1 + 1; omega) (.int .i64 1)
  have b4 := B4.cell 0
  have c4 := C4.cell 0
  simp at b4 c4
  rintro r u' w'' ⟨rfl, rfl, rfl⟩
  simp [Leaves, settle, results, Try.results14, go_sem, b4, c4]
  exact K4
def SaysPut (q : Ms.S) (w : World) (r : Ending) (w' : World) : Prop :=
  ((Ms.put q.m).length ≤ 1200 ∧ ∃ A c, r = .returned (.tuple #[.slice A (Ms.put q.m).length c, .int .i64 0]) ∧ (Ms.put q.m).length ≤ c ∧ w'.ownsRow w.heap.size 5 1 (.slice A (Ms.put q.m).length c) (Ms.put q.m).length (Im.u8s (Ms.put q.m)) ∧ Below w.heap.size w w') ∨
  (¬ (Ms.put q.m).length ≤ 1200 ∧ r = .returned (.tuple #[.slice none 0 0, .int .i64 4]) ∧ Below w.heap.size w w')
theorem wput_yes (q : Ms.S) (w : World) (hT : Ms.Ty q.m) (hok : Ms.Ok q.m) (hL : LiesM w w.heap.size q) :
    Calls Try.prog 14 #[.agg q.cells] w (SaysPut q w) := by
  have hmf : ∀ (fn : Fn) (first cap : Array Value) (w : World), (Instr.makeFunc fn first cap).run Try.prog w = .ok (.func fn first cap) w := fun _ _ _ _ => rfl
  obtain ⟨V, hV⟩ : ∃ V, V = ((((w.alloc (.cells q.cells 29)).alloc (.cells #[.slice none 0 0] 27)).alloc (.cells #[.int .i64 0] 3)).alloc (.cells #[.int .i64 1] 3)) := ⟨_, rfl⟩
  have P1 := qh (show Box V w.heap.size 29 q.cells by rw [hV]; exact (((Box.made w _ _).alloc _).alloc _).alloc _)
  have B1 := qh (show Box V (w.heap.size + 1) 27 #[.slice none 0 0] by rw [hV]; exact ((Box.made_at (n := w.heap.size + 1) (w.alloc (.cells q.cells 29)) _ _ (by simp)).alloc _).alloc _)
  have C1 := qh (show Box V (w.heap.size + 1 + 1) 3 #[.int .i64 0] by rw [hV]; exact (Box.made_at (n := w.heap.size + 1 + 1) ((w.alloc (.cells q.cells 29)).alloc (.cells #[.slice none 0 0] 27)) _ _ (by simp)).alloc _)
  have D1 := qh (show Box V (w.heap.size + 1 + 1 + 1) 3 #[.int .i64 1] by rw [hV]; exact Box.made_at (n := w.heap.size + 1 + 1 + 1) (((w.alloc (.cells q.cells 29)).alloc (.cells #[.slice none 0 0] 27)).alloc (.cells #[.int .i64 0] 3)) _ _ (by simp))
  have K1 := qh (show Below w.heap.size w V by rw [hV]; exact ((((Below.refl w.heap.size w).alloc (Nat.le_refl _) _).alloc (by simp) _).alloc (by simp <;> omega) _).alloc (by simp <;> omega) _)
  have HV := qh hV.symm
  have cm := qh (wmay_any q V hT ((hL.to K1.out).wide K1.out.size))
  rw [← Ms.okB_yes hok] at cm
  have ble := Ms.body_le hok
  have bby := qh (Ms.body_bytes hT)
  have HL := qh hL
  have HPUT := qh (show Ms.put q.m = Im.bytesOf 4 ((Crc.sum (Ms.body q.m) : Nat) : Int) ++ Ms.body q.m from rfl)
  have slt := Crc.sum_lt (Ms.body_bytes hT)
  clear hV
  have HTT := qh hT
  have HOK := qh hok
  clear hL hT hok
  go_enter_defers Try.func14, Try.ntmps14
  go_upto_region 3 with fail
  rw [HV.out]
  go_upto_region 5 with (first | ((with_reducible refine load_at_gate rfl rfl Try.underlying29 rfl msg_info16 ?_); apply LoadAt.mk (cs := q.cells.toList) rfl (fun j v hv => by rw [addr_cell, Nat.zero_add, P1.out.cell]; simpa using hv) rfl; rw [Array.toArray_toList]) | (go_at_call 15; ((with_reducible refine (cm.out).mono ?_); rintro r w1 ⟨rfl, hb⟩; have P2 := qh (P1.out.below hb P1.out.lt); have D2 := qh (D1.out.below hb D1.out.lt); have C2 := qh (C1.out.below hb C1.out.lt); have B2 := qh (B1.out.below hb B1.out.lt); have K2 := qh (K1.out.trans (hb.mono K1.out.size)); clear hb cm)) | (go_at_call 30; ((with_reducible refine (need_yes _ _).mono ?_); rintro r w2 ⟨rfl, rfl⟩)))
  have sz1 := K2.out.size
  obtain ⟨U, hU⟩ : ∃ U, U = (w1.alloc (.cells #[.slice none 0 0] 27)).alloc (.cells #[.pointer (some ⟨w1.heap.size, 0, none⟩)] 68) := ⟨_, rfl⟩
  have bU : Below w1.heap.size w1 U := by rw [hU]; exact ((Below.refl w1.heap.size w1).alloc (Nat.le_refl _) _).alloc (by simp) _
  have W3 : Wr w.heap.size w1.heap.size (w1.heap.size + 1) [] U := by rw [hU]; exact Wr.nil (Box.made_at (n := w1.heap.size + 1) (w1.alloc _) _ _ (by simp)) ((Box.made w1 _ _).alloc _)
  have P3 := qh (P2.out.below bU P2.out.lt)
  have D3 := qh (D2.out.below bU D2.out.lt)
  have C3 := qh (C2.out.below bU C2.out.lt)
  have B3 := qh (B2.out.below bU B2.out.lt)
  have K3 := qh (K2.out.trans (bU.mono sz1))
  have cl := qh (laymsg_w q w.heap.size [] w.heap.size w1.heap.size (w1.heap.size + 1) U HTT.out HOK.out sz1 (Nat.le_refl _) K3.out.size W3 (by simp) P3.out (HL.out.to K3.out))
  rw [List.nil_append] at cl
  have ltb := B2.out.lt
  subst hU
  clear W3 bU
  go_upto_region 6 with (first | (go_at_call 32; ((with_reducible refine (writer_any _ _).mono ?_); rintro r w3 ⟨rfl, rfl⟩)) | (go_at_call 31; ((with_reducible refine (cl.out).mono ?_); rintro r w4 ⟨rfl, hI, hB, hK, hVK⟩; have I4 := qh hI; have D4 := qh (hK _ _ _ D3.out (by omega) (by decide) (by decide)); have C4 := qh (hK _ _ _ C3.out (by omega) (by decide) (by decide)); have B4 := qh (hVK _ _ B3.out (by omega) (by omega)); have K4 := qh (K3.out.trans hB); have Z4 := qh hB.size; clear hI hB hK hVK cl)))
  obtain ⟨hp4, A4, k4, hv4, how4⟩ := I4.out
  obtain ⟨m, hm⟩ : ∃ m, m = (Ms.body q.m).length := ⟨_, rfl⟩
  rw [← hm] at hv4 how4 ble
  have HM := qh hm.symm
  have v4 := hv4.cell 0
  have hm0 : m ≠ 0 := by have := HM.out; unfold Ms.body at this; rw [List.length_append, Ms.head_len] at this; omega
  have L4 := Lies.owned how4
  have cc := qh (wcheck_any (Ms.body q.m) A4 m k4 w4 bby.out (by unfold maxLen; omega) L4)
  have HV4 := qh hv4
  have OW4 := qh how4
  have sz4 : w.heap.size ≤ w4.heap.size := K4.out.size
  have ltv := hv4.lt
  clear hp4 hv4 how4 L4 hm
  go_upto_region 7 with (go_at_call 23; ((with_reducible refine (cc.out).mono ?_); rintro r w5 ⟨rfl, rfl⟩))
  obtain ⟨U, hU⟩ : ∃ U, U = (w4.alloc (.cells #[.int .u32 ((Crc.sum (Ms.body q.m) : Nat) : Int)] 23)).alloc (.cells #[.pointer (some ⟨w.heap.size + 1, 0, none⟩)] 68) := ⟨_, rfl⟩
  have bU : Below w4.heap.size w4 U := by rw [hU]; exact ((Below.refl w4.heap.size w4).alloc (Nat.le_refl _) _).alloc (by simp) _
  have Q5 : Box U w4.heap.size 23 #[.int .u32 ((Crc.sum (Ms.body q.m) : Nat) : Int)] := by rw [hU]; exact (Box.made w4 _ _).alloc _
  have D5 := qh (D4.out.below bU D4.out.lt)
  have C5 := qh (C4.out.below bU C4.out.lt)
  have B5 := qh (B4.out.below bU B4.out.lt)
  have V5 := qh (HV4.out.below bU ltv)
  have OW5 := qh (own_below OW4.out bU (Nat.le_refl _))
  have K5 := qh (K4.out.trans (bU.mono sz4))
  have W5 : Wr w.heap.size (w.heap.size + 1) (w4.heap.size + 1) [] U := Wr.nil (by rw [hU]; exact Box.made_at (n := w4.heap.size + 1) (w4.alloc _) _ _ (by simp)) B5.out
  have c5 := qh (layu32_far 4 ((Crc.sum (Ms.body q.m) : Nat) : Int) w4.heap.size 0 23 #[.int .u32 ((Crc.sum (Ms.body q.m) : Nat) : Int)] [] w.heap.size (w.heap.size + 1) (w4.heap.size + 1) U (by decide) (by omega) (Nat.le_succ _) W5 (by simp) Q5 rfl (by decide) (by decide) (by decide))
  rw [List.nil_append, show ((4 : Nat) : Int) = 4 from rfl] at c5
  obtain ⟨g, cur, hA4, hbg, hmc, hgB, hcur⟩ := own_row OW5.out hm0
  have hF5 : Far g (w.heap.size + 1) U := fun A n c hB => by rw [hB.is_one B5.out]; intro h; cases h
  have IV5 := qh W5.isvar
  have GB := qh hgB
  have GF := qh hF5
  have GC := qh hcur
  have HA := qh hA4
  subst hU
  clear W5 Q5 bU hgB hF5 hcur hA4 cc
  go_upto_region 8 with (first | (go_at_call 32; ((with_reducible refine (writer_any _ _).mono ?_); rintro r w6 ⟨rfl, rfl⟩)) | (go_at_call 33; ((with_reducible refine (c5.out).mono ?_); rintro r w7 ⟨rfl, hI, hK, hF⟩; have I7 := qh hI; have D7 := qh (D5.out.wrote' hK IV5.out (by decide) (by decide)); have C7 := qh (C5.out.wrote' hK IV5.out (by decide) (by decide)); have V7 := qh (V5.out.wrote hK (by omega) (by decide)); have G7 := qh (hF g cur GB.out GF.out).1; have K7 := qh (K5.out.trans (hK.to K5.out.size)); clear hI hK hF c5)))
  obtain ⟨hp7, Ab, kb, hvb, howb⟩ := I7.out
  rw [Im.bytesOf_len] at hvb howb
  have b7 := hvb.cell 0
  have v7 := V7.out.cell 0
  have L7 := qh (show Lies w7 w7.heap.size 1 A4 m (Im.u8s (Ms.body q.m)) by rw [HA.out]; exact G7.out.row_lies HM.out GC.out)
  have HB7 := qh hvb
  have OW7 := qh howb
  have sz7 : w.heap.size ≤ w7.heap.size := K7.out.size
  obtain ⟨i0, hi0, hz0, hz1, hz2⟩ := u8_parts
  have HI := qh hi0
  have HZ := qh hz0
  have HS := qh hz1
  have HY := qh hz2
  clear hp7 hvb howb hi0 hz0 hz1 hz2
  go_upto_region 9 with ((with_reducible refine append_gate (x := .tmp 17) (y := .tmp 18) (t := 27) (e := 5) (size := 1) (bytes := 1) rfl rfl Try.underlying27 HI.out HZ.out HS.out HY.out rfl (by decide) ?_); refine Appends.mk (base := w.heap.size) (n := 4) (xs := Im.u8s (Im.bytesOf 4 ((Crc.sum (Ms.body q.m) : Nat) : Int))) rfl OW7.out L7.out (Im.u8s_one _) (by unfold maxLen; omega) (by omega) sz7 ?_; intro A9 k9 w9 how9 hg9; have D9 := qh (D7.out.grown hg9 (D7.out.unowned OW7.out (by decide))); have C9 := qh (C7.out.grown hg9 (C7.out.unowned OW7.out (by decide))); have B9 := qh (HB7.out.grown hg9 (HB7.out.unowned OW7.out (by decide))); have K9 := qh (K7.out.trans (((Wrote.refl (b := w.heap.size) (B := w.heap.size + 1) (Nat.le_succ _) w7).grown OW7.out hg9).to sz7)); have OW9 := qh how9; have f9 := B9.out.free 0; have b9 := B9.out.cell 0; clear hg9 how9)
  have ne12 : w.heap.size + 1 ≠ w.heap.size + 1 + 1 := by omega
  have ne13 : w.heap.size + 1 ≠ w.heap.size + 1 + 1 + 1 := by omega
  have ne23 : w.heap.size + 1 + 1 ≠ w.heap.size + 1 + 1 + 1 := by omega
  have D10 := qh (D9.out.far (p := ⟨w.heap.size + 1, 0, none⟩) ne13.symm (.slice A9 (4 + m) k9))
  have d10 := D10.out.cell 0
  have e10 := D10.out.free 0
  have OW10 := qh (ownsRow_setCell_other (a := ⟨w.heap.size + 1, 0, none⟩) OW9.out (B9.out.unowned OW9.out (by decide)) (.slice A9 (4 + m) k9))
  clear f9 b9 b7 v7
  go_upto_region 10 with fail
  obtain ⟨U, hU⟩ : ∃ U, U = (w9.setCell ⟨w.heap.size + 1, 0, none⟩ (.slice A9 (4 + m) k9)).setCell ⟨w.heap.size + 1 + 1 + 1, 0, none⟩ (.int .i64 4) := ⟨_, rfl⟩
  have BU := qh (show Box U (w.heap.size + 1) 27 #[(.slice A9 (4 + m) k9)] by rw [hU]; exact (B9.out.put 0 (.slice A9 (4 + m) k9)).far (p := ⟨w.heap.size + 1 + 1 + 1, 0, none⟩) ne13 _)
  have CU := qh (show Box U (w.heap.size + 1 + 1) 3 #[.int .i64 0] by rw [hU]; exact (C9.out.far (p := ⟨w.heap.size + 1, 0, none⟩) ne12.symm _).far (p := ⟨w.heap.size + 1 + 1 + 1, 0, none⟩) ne23 _)
  have DU := qh (show Box U (w.heap.size + 1 + 1 + 1) 3 #[.int .i64 4] by rw [hU]; exact D10.out.put 0 _)
  have KU := qh (show Below w.heap.size w U by rw [hU]; exact (K9.out.setCell (p := ⟨w.heap.size + 1, 0, none⟩) (Nat.le_succ _) _).setCell (p := ⟨w.heap.size + 1 + 1 + 1, 0, none⟩) (by show w.heap.size ≤ w.heap.size + 1 + 1 + 1; omega) _)
  have OWU := qh (show U.ownsRow w.heap.size 5 1 (.slice A9 (4 + m) k9) (4 + m) (Im.u8s (Ms.put q.m)) by rw [hU, HPUT.out, Im.u8s_append]; exact ownsRow_setCell_other (a := ⟨w.heap.size + 1 + 1 + 1, 0, none⟩) OW10.out (D10.out.unowned OW10.out (by decide)) _)
  have HLEN := qh (show (Ms.put q.m).length = 4 + m by rw [HPUT.out, List.length_append, Im.bytesOf_len, HM.out])
  rw [← hU]
  clear hU d10 e10
  have bu := BU.out.cell 0
  have fu := BU.out.free 0
  have cu := CU.out.cell 0
  have gu := CU.out.free 0
  by_cases hle : 4 + m ≤ 1200
  · have hle' : (4 : Int) + (m : Int) ≤ 1200 := by omega
    have CU2 := CU.out.far (p := ⟨w.heap.size + 1, 0, none⟩) ne12.symm (.slice A9 (4 + m) k9)
    have cu2 := CU2.cell 0
    have gu2 := CU2.free 0
    clear CU2
    go_wp2_with (go_at_call 30; ((with_reducible refine (need_yes _ _).mono ?_); rintro r wn ⟨rfl, rfl⟩))
    have B4 := (BU.out.put 0 (.slice A9 (4 + m) k9)).far (p := ⟨w.heap.size + 1 + 1, 0, none⟩) ne12 (.int .i64 0)
    have C4 := (CU.out.far (p := ⟨w.heap.size + 1, 0, none⟩) ne12.symm (.slice A9 (4 + m) k9)).put 0 (.int .i64 0)
    have K4 := (KU.out.setCell (p := ⟨w.heap.size + 1, 0, none⟩) (Nat.le_succ _) (.slice A9 (4 + m) k9)).setCell (p := ⟨w.heap.size + 1 + 1, 0, none⟩) (by show w.heap.size ≤ w.heap.size + 1 + 1; omega) (.int .i64 0)
    have O1 := ownsRow_setCell_other (a := ⟨w.heap.size + 1, 0, none⟩) OWU.out (BU.out.unowned OWU.out (by decide)) (.slice A9 (4 + m) k9)
    have OW := ownsRow_setCell_other (a := ⟨w.heap.size + 1 + 1, 0, none⟩) O1 ((CU.out.far (p := ⟨w.heap.size + 1, 0, none⟩) ne12.symm (.slice A9 (4 + m) k9)).unowned O1 (by decide)) (.int .i64 0)
    have b4 := B4.cell 0
    have c4 := C4.cell 0
    simp at b4 c4
    refine leaves_cons (f := 29) (args := #[.pointer (some ⟨w.heap.size + 1 + 1 + 1, 0, none⟩), .pointer (some ⟨w.heap.size + 1, 0, none⟩), .pointer (some ⟨w.heap.size + 1 + 1, 0, none⟩)]) (by simp) (by simp [go_sem]) ?_
    refine (wcatch_idle_put _ _ _ _).mono ?_
    rintro r u' w'' ⟨rfl, rfl, rfl⟩
    simp [Leaves, settle, results, Try.results14, go_sem, b4, c4]
    refine .inl ⟨by rw [HLEN.out]; exact hle, A9, k9, ?_, ?_, ?_, K4⟩
    · rw [HLEN.out]
    · rw [HLEN.out]; exact own_cap OWU.out
    · rw [HLEN.out]; exact OW
  · have hle' : ¬ (4 : Int) + (m : Int) ≤ 1200 := by omega
    go_wp2_with (go_at_call 30; ((with_reducible refine (need_no _ _).mono ?_); rintro r wn ⟨rfl, rfl⟩))
    refine leaves_cons (f := 29) (args := #[.pointer (some ⟨w.heap.size + 1 + 1 + 1, 0, none⟩), .pointer (some ⟨w.heap.size + 1, 0, none⟩), .pointer (some ⟨w.heap.size + 1 + 1, 0, none⟩)]) (by simp) (by simp [go_sem]) ?_
    refine (wcatch_put (w.heap.size + 1 + 1 + 1) (w.heap.size + 1) (w.heap.size + 1 + 1) _ _ [] _ _ DU.out _ BU.out _ CU.out).mono ?_
    have ne : w.heap.size + 1 ≠ w.heap.size + 1 + 1 := by omega
    have B4 := (BU.out.put 0 (.slice none 0 0)).far (p := ⟨w.heap.size + 1 + 1, 0, none⟩) ne (.int .i64 4)
    have C4 := (CU.out.far (p := ⟨w.heap.size + 1, 0, none⟩) (fun q => ne q.symm) (.slice none 0 0)).put 0 (.int .i64 4)
    have K4 := (KU.out.setCell (p := ⟨w.heap.size + 1, 0, none⟩) (Nat.le_succ _) (.slice none 0 0)).setCell (p := ⟨w.heap.size + 1 + 1, 0, none⟩) (by show w.heap.size ≤ w.heap.size + 1 + 1; omega) (.int .i64 4)
    have b4 := B4.cell 0
    have c4 := C4.cell 0
    simp at b4 c4
    rintro r u' w'' ⟨rfl, rfl, rfl⟩
    simp [Leaves, settle, results, Try.results14, go_sem, b4, c4]
    exact .inr ⟨by rw [HLEN.out]; exact hle, rfl, K4⟩
end Go.Proofs.Ytgmlbimgcifenaa
namespace Ms
open Go
def plain (m : M) : M := { m with log := m.log.map fun s => ⟨s.e, none, 0⟩ }
def rdN (c : Int) (n : Nat) (set : M → Int → M) (q : M × List Int) : Option (M × List Int) := if (has q.1.kind).contains c then (Im.rdn n q.2).bind fun a => some (set q.1 a.1, a.2) else some q
def rdIns (q : M × List Int) : Option (M × List Int) := if (has q.1.kind).contains 105 then (Im.decL 1 decInW q.2).bind fun a => some ({ q.1 with ins := a.1 }, a.2) else some q
def rdLog (q : M × List Int) : Option (M × List Int) := if (has q.1.kind).contains 108 then (Im.decL 1 Go.Proofs.Ytgmlbimgcifenaa.decEntryW q.2).bind fun a => some ({ q.1 with log := a.1.map fun e => ⟨e, none, 0⟩ }, a.2) else some q
def rdData (q : M × List Int) : Option (M × List Int) := if (has q.1.kind).contains 100 then (Im.getB 1 q.2).bind fun a => some ({ q.1 with data := a.1 }, a.2) else some q
def rd_slot : M × List Int → Option (M × List Int) := rdN 115 1 fun m y => { m with slot := y }
def rd_gen : M × List Int → Option (M × List Int) := rdN 103 2 fun m y => { m with gen := y }
def rd_frame : M × List Int → Option (M × List Int) := rdN 102 4 fun m y => { m with frame := y }
def rd_code : M × List Int → Option (M × List Int) := rdN 99 1 fun m y => { m with code := y }
def rd_n : M × List Int → Option (M × List Int) := rdN 110 2 fun m y => { m with n := y }
def rd_of : M × List Int → Option (M × List Int) := rdN 111 2 fun m y => { m with of := y }
def rd_bits : M × List Int → Option (M × List Int) := rdN 98 4 fun m y => { m with bits := y }
def rd_sum : M × List Int → Option (M × List Int) := rdN 109 8 fun m y => { m with sum := y }
def NI (q : S) : Prop := q.ai = none ∧ q.ci = 0 ∧ q.m.ins = []
def NL (q : S) : Prop := q.al = none ∧ q.cl = 0 ∧ q.m.log = []
def ND (q : S) : Prop := q.ad = none ∧ q.cd = 0 ∧ q.m.data = []
end Ms
namespace Go.Proofs.Ytgmlbimgcifenaa
open Go.RowKit Go.Shelf
def RI (q : Ms.S) (X : World) : Prop := Ms.NI q ∨ ∃ S, q.ai = some ⟨S, 0, none⟩ ∧ q.ci = q.m.ins.length ∧ Box X S 50 (Gm.inCells q.m.ins).toArray
def RL (q : Ms.S) (X : World) : Prop := Ms.NL q ∨ ∃ S, q.al = some ⟨S, 0, none⟩ ∧ q.cl = q.m.log.length ∧ Box X S 53 (En.sCells q.m.log).toArray ∧ ∀ s ∈ q.m.log, ∃ S2, s.adr = some ⟨S2, 0, none⟩ ∧ s.cap = s.e.evs.length ∧ Box X S2 59 (En.evCells s.e.evs).toArray
def RD (q : Ms.S) (X : World) : Prop := Ms.ND q ∨ ∃ S, q.ad = some ⟨S, 0, none⟩ ∧ q.cd = q.m.data.length ∧ Box X S 5 (Im.u8s q.m.data).toArray
structure Rs (b P tb tm tq : Nat) (q : Ms.S) (v : Value) (X : World) : Prop where
  box : Box X P 29 q.cells
  by_ : Box X tb 66 #[v]
  msg : Box X tm 69 #[.pointer (some ⟨P, 0, none⟩)]
  own : Box X tq 72 #[.int .i64 (Ms.own q.m.kind)]
  size : b ≤ X.heap.size
  ri : RI q X
  rl : RL q X
section
variable {b P tb tm tq : Nat} {q q' : Ms.S} {v : Value} {X X' : World}
theorem RI.kb {cs : Array Value} (h : RI q X) (hB : Box X P 29 cs) (hK : Kb P X X') : RI q X' := by
  rcases h with h | ⟨S, h1, h2, h3⟩
  · exact .inl h
  · exact .inr ⟨S, h1, h2, hK _ _ _ h3 (Box.apart h3 hB (by decide)) (by decide) (by decide)⟩
theorem RL.kb {cs : Array Value} (h : RL q X) (hB : Box X P 29 cs) (hK : Kb P X X') : RL q X' := by
  rcases h with h | ⟨S, h1, h2, h3, h4⟩
  · exact .inl h
  · refine .inr ⟨S, h1, h2, hK _ _ _ h3 (Box.apart h3 hB (by decide)) (by decide) (by decide), fun s hs => ?_⟩
    obtain ⟨S2, g1, g2, g3⟩ := h4 s hs
    exact ⟨S2, g1, g2, hK _ _ _ g3 (Box.apart g3 hB (by decide)) (by decide) (by decide)⟩
theorem Rs.kb (h : Rs b P tb tm tq q v X) (hk : q'.m.kind = q.m.kind) (hK : Kb P X X') (hs : X.heap.size ≤ X'.heap.size) (hB : Box X' P 29 q'.cells) (hi : RI q' X') (hl : RL q' X') : Rs b P tb tm tq q' v X' :=
  ⟨hB, hK _ _ _ h.by_ (Box.apart h.by_ h.box (by decide)) (by decide) (by decide), hK _ _ _ h.msg (Box.apart h.msg h.box (by decide)) (by decide) (by decide), by rw [hk]; exact hK _ _ _ h.own (Box.apart h.own h.box (by decide)) (by decide) (by decide), Nat.le_trans h.size hs, hi, hl⟩
end
def GotP (D : Option (Ms.M × List Int)) (b Bb Bp P tb tm tq : Nat) (q : Ms.S) (v : Value) (N : Ms.S → Prop) (X : World) (e : Ending) (w' : World) : Prop :=
  (∃ q' rest, D = some (Ms.plain q'.m, rest) ∧ e = .returned (.tuple #[]) ∧ Im.IsBytes rest ∧ Rd b Bb Bp rest w' ∧ Rs b P tb tm tq q' v w' ∧ q'.m.kind = q.m.kind ∧ Below b X w' ∧ Kb P X w' ∧ N q') ∨
  (D = none ∧ Pan e ∧ Below b X w' ∧ Kb P X w' ∧ ∃ cs', Box w' P 29 cs' ∧ cs'.size = 16)
theorem rs_slot (q : Ms.S) (P tb tm tq : Nat) (bs : List Int) (b Bb Bp : Nat) (X : World) (hBy : Im.IsBytes bs) (hbB : b ≤ Bb) (hbP : b ≤ P) (h : Rd b Bb Bp bs X) (hS : Rs b P tb tm tq q (.func (.func 60) #[] #[.pointer (some ⟨Bp, 0, none⟩)]) X) :
    Calls Try.prog 66 #[.int .i64 1, .func (.func 67) #[] #[.pointer (some ⟨tb, 0, none⟩), .pointer (some ⟨tm, 0, none⟩)], .pointer (some ⟨tq, 0, none⟩)] X (GotP (Ms.rd_slot (Ms.plain q.m, bs)) b Bb Bp P tb tm tq q (.func (.func 60) #[] #[.pointer (some ⟨Bp, 0, none⟩)]) (fun q' => (Ms.NI q → Ms.NI q') ∧ (Ms.NL q → Ms.NL q') ∧ (Ms.ND q → Ms.ND q')) X) := by
  refine pt2 _ (Ms.own q.m.kind) _ P tb tm tq X _ hS.by_ hS.msg hS.own (Ms.own_1 q.m.kind) (fun h0 => ?_) (fun h1 => ?_) (fun e w' hφ => ?_)
  · have hc : (Ms.has q.m.kind).contains 115 = false := by
      cases hc : (Ms.has q.m.kind).contains 115
      · rfl
      · rw [hc] at h0; exact absurd h0 (by decide)
    exact .inl ⟨q, bs, by show (if (Ms.has (Ms.plain q.m).kind).contains 115 = true then _ else _) = _; rw [show (Ms.plain q.m).kind = q.m.kind from rfl, hc]; rfl, rfl, hBy, h, hS, rfl, Below.refl _ _, Kb.refl _, fun h => h, fun h => h, fun h => h⟩
  · have hc : (Ms.has q.m.kind).contains 115 = true := by
      cases hc : (Ms.has q.m.kind).contains 115
      · rw [hc] at h1; exact absurd rfl h1
      · rfl
    have hD : Ms.rd_slot (Ms.plain q.m, bs) = (Im.rdn 1 bs).bind fun a => some ({ Ms.plain q.m with slot := a.1 }, a.2) := by
      show (if (Ms.has (Ms.plain q.m).kind).contains 115 = true then _ else _) = _
      rw [show (Ms.plain q.m).kind = q.m.kind from rfl, hc]; rfl
    have hk := (Kb.refl (B := P) X).call (one_below' X)
    have hb := (one_below' X).mono hS.size
    refine (part_int 1 1 rfl q.m.slot P 5 29 q.cells bs b Bb Bp X.drew (by decide) hBy hbB hbP hS.size (h.call (one_below' X) hS.size) hS.box.drew rfl (by decide) (by decide) (by decide)).mono ?_
    rintro e w' (⟨y, rest, hr, rfl, hI, hK, hB⟩ | ⟨hn, hp, hK, cs', hB, hs⟩)
    · have hKK := hk.trans hK.kb
      exact .inl ⟨{ q with m := { q.m with slot := y } }, rest, by rw [hD, hr]; rfl, rfl, (Im.rdn_inv hBy hr).2.2.2, hI, hS.kb rfl hKK hK.below.size hB (hS.ri.kb hS.box hKK) (hS.rl.kb hS.box hKK), rfl, hb.trans hK.below, hKK, fun h => h, fun h => h, fun h => h⟩
    · exact .inr ⟨by rw [hD, hn]; rfl, hp, hb.trans hK.below, hk.trans hK.kb, cs', hB, hs⟩
  · rcases hφ with ⟨q', rest, _, h1, _, _, h2, _⟩ | ⟨_, ⟨ss, h1⟩, _⟩
    · exact .inl ⟨h1, h2.by_, h2.msg⟩
    · exact .inr ⟨_, h1⟩
theorem rs_gen (q : Ms.S) (P tb tm tq : Nat) (bs : List Int) (b Bb Bp : Nat) (X : World) (hBy : Im.IsBytes bs) (hbB : b ≤ Bb) (hbP : b ≤ P) (h : Rd b Bb Bp bs X) (hS : Rs b P tb tm tq q (.func (.func 60) #[] #[.pointer (some ⟨Bp, 0, none⟩)]) X) :
    Calls Try.prog 66 #[.int .i64 2, .func (.func 68) #[] #[.pointer (some ⟨tb, 0, none⟩), .pointer (some ⟨tm, 0, none⟩)], .pointer (some ⟨tq, 0, none⟩)] X (GotP (Ms.rd_gen (Ms.plain q.m, bs)) b Bb Bp P tb tm tq q (.func (.func 60) #[] #[.pointer (some ⟨Bp, 0, none⟩)]) (fun q' => (Ms.NI q → Ms.NI q') ∧ (Ms.NL q → Ms.NL q') ∧ (Ms.ND q → Ms.ND q')) X) := by
  refine pt3 _ (Ms.own q.m.kind) _ P tb tm tq X _ hS.by_ hS.msg hS.own (Ms.own_2 q.m.kind) (fun h0 => ?_) (fun h1 => ?_) (fun e w' hφ => ?_)
  · have hc : (Ms.has q.m.kind).contains 103 = false := by
      cases hc : (Ms.has q.m.kind).contains 103
      · rfl
      · rw [hc] at h0; exact absurd h0 (by decide)
    exact .inl ⟨q, bs, by show (if (Ms.has (Ms.plain q.m).kind).contains 103 = true then _ else _) = _; rw [show (Ms.plain q.m).kind = q.m.kind from rfl, hc]; rfl, rfl, hBy, h, hS, rfl, Below.refl _ _, Kb.refl _, fun h => h, fun h => h, fun h => h⟩
  · have hc : (Ms.has q.m.kind).contains 103 = true := by
      cases hc : (Ms.has q.m.kind).contains 103
      · rw [hc] at h1; exact absurd rfl h1
      · rfl
    have hD : Ms.rd_gen (Ms.plain q.m, bs) = (Im.rdn 2 bs).bind fun a => some ({ Ms.plain q.m with gen := a.1 }, a.2) := by
      show (if (Ms.has (Ms.plain q.m).kind).contains 103 = true then _ else _) = _
      rw [show (Ms.plain q.m).kind = q.m.kind from rfl, hc]; rfl
    have hk := (Kb.refl (B := P) X).call (one_below' X)
    have hb := (one_below' X).mono hS.size
    refine (part_int 2 2 rfl q.m.gen P 6 29 q.cells bs b Bb Bp X.drew (by decide) hBy hbB hbP hS.size (h.call (one_below' X) hS.size) hS.box.drew rfl (by decide) (by decide) (by decide)).mono ?_
    rintro e w' (⟨y, rest, hr, rfl, hI, hK, hB⟩ | ⟨hn, hp, hK, cs', hB, hs⟩)
    · have hKK := hk.trans hK.kb
      exact .inl ⟨{ q with m := { q.m with gen := y } }, rest, by rw [hD, hr]; rfl, rfl, (Im.rdn_inv hBy hr).2.2.2, hI, hS.kb rfl hKK hK.below.size hB (hS.ri.kb hS.box hKK) (hS.rl.kb hS.box hKK), rfl, hb.trans hK.below, hKK, fun h => h, fun h => h, fun h => h⟩
    · exact .inr ⟨by rw [hD, hn]; rfl, hp, hb.trans hK.below, hk.trans hK.kb, cs', hB, hs⟩
  · rcases hφ with ⟨q', rest, _, h1, _, _, h2, _⟩ | ⟨_, ⟨ss, h1⟩, _⟩
    · exact .inl ⟨h1, h2.by_, h2.msg⟩
    · exact .inr ⟨_, h1⟩
theorem rs_frame (q : Ms.S) (P tb tm tq : Nat) (bs : List Int) (b Bb Bp : Nat) (X : World) (hBy : Im.IsBytes bs) (hbB : b ≤ Bb) (hbP : b ≤ P) (h : Rd b Bb Bp bs X) (hS : Rs b P tb tm tq q (.func (.func 60) #[] #[.pointer (some ⟨Bp, 0, none⟩)]) X) :
    Calls Try.prog 66 #[.int .i64 4, .func (.func 69) #[] #[.pointer (some ⟨tb, 0, none⟩), .pointer (some ⟨tm, 0, none⟩)], .pointer (some ⟨tq, 0, none⟩)] X (GotP (Ms.rd_frame (Ms.plain q.m, bs)) b Bb Bp P tb tm tq q (.func (.func 60) #[] #[.pointer (some ⟨Bp, 0, none⟩)]) (fun q' => (Ms.NI q → Ms.NI q') ∧ (Ms.NL q → Ms.NL q') ∧ (Ms.ND q → Ms.ND q')) X) := by
  refine pt4 _ (Ms.own q.m.kind) _ P tb tm tq X _ hS.by_ hS.msg hS.own (Ms.own_4 q.m.kind) (fun h0 => ?_) (fun h1 => ?_) (fun e w' hφ => ?_)
  · have hc : (Ms.has q.m.kind).contains 102 = false := by
      cases hc : (Ms.has q.m.kind).contains 102
      · rfl
      · rw [hc] at h0; exact absurd h0 (by decide)
    exact .inl ⟨q, bs, by show (if (Ms.has (Ms.plain q.m).kind).contains 102 = true then _ else _) = _; rw [show (Ms.plain q.m).kind = q.m.kind from rfl, hc]; rfl, rfl, hBy, h, hS, rfl, Below.refl _ _, Kb.refl _, fun h => h, fun h => h, fun h => h⟩
  · have hc : (Ms.has q.m.kind).contains 102 = true := by
      cases hc : (Ms.has q.m.kind).contains 102
      · rw [hc] at h1; exact absurd rfl h1
      · rfl
    have hD : Ms.rd_frame (Ms.plain q.m, bs) = (Im.rdn 4 bs).bind fun a => some ({ Ms.plain q.m with frame := a.1 }, a.2) := by
      show (if (Ms.has (Ms.plain q.m).kind).contains 102 = true then _ else _) = _
      rw [show (Ms.plain q.m).kind = q.m.kind from rfl, hc]; rfl
    have hk := (Kb.refl (B := P) X).call (one_below' X)
    have hb := (one_below' X).mono hS.size
    refine (part_int 4 4 rfl q.m.frame P 7 29 q.cells bs b Bb Bp X.drew (by decide) hBy hbB hbP hS.size (h.call (one_below' X) hS.size) hS.box.drew rfl (by decide) (by decide) (by decide)).mono ?_
    rintro e w' (⟨y, rest, hr, rfl, hI, hK, hB⟩ | ⟨hn, hp, hK, cs', hB, hs⟩)
    · have hKK := hk.trans hK.kb
      exact .inl ⟨{ q with m := { q.m with frame := y } }, rest, by rw [hD, hr]; rfl, rfl, (Im.rdn_inv hBy hr).2.2.2, hI, hS.kb rfl hKK hK.below.size hB (hS.ri.kb hS.box hKK) (hS.rl.kb hS.box hKK), rfl, hb.trans hK.below, hKK, fun h => h, fun h => h, fun h => h⟩
    · exact .inr ⟨by rw [hD, hn]; rfl, hp, hb.trans hK.below, hk.trans hK.kb, cs', hB, hs⟩
  · rcases hφ with ⟨q', rest, _, h1, _, _, h2, _⟩ | ⟨_, ⟨ss, h1⟩, _⟩
    · exact .inl ⟨h1, h2.by_, h2.msg⟩
    · exact .inr ⟨_, h1⟩
theorem rs_code (q : Ms.S) (P tb tm tq : Nat) (bs : List Int) (b Bb Bp : Nat) (X : World) (hBy : Im.IsBytes bs) (hbB : b ≤ Bb) (hbP : b ≤ P) (h : Rd b Bb Bp bs X) (hS : Rs b P tb tm tq q (.func (.func 60) #[] #[.pointer (some ⟨Bp, 0, none⟩)]) X) :
    Calls Try.prog 66 #[.int .i64 8, .func (.func 70) #[] #[.pointer (some ⟨tb, 0, none⟩), .pointer (some ⟨tm, 0, none⟩)], .pointer (some ⟨tq, 0, none⟩)] X (GotP (Ms.rd_code (Ms.plain q.m, bs)) b Bb Bp P tb tm tq q (.func (.func 60) #[] #[.pointer (some ⟨Bp, 0, none⟩)]) (fun q' => (Ms.NI q → Ms.NI q') ∧ (Ms.NL q → Ms.NL q') ∧ (Ms.ND q → Ms.ND q')) X) := by
  refine pt5 _ (Ms.own q.m.kind) _ P tb tm tq X _ hS.by_ hS.msg hS.own (Ms.own_8 q.m.kind) (fun h0 => ?_) (fun h1 => ?_) (fun e w' hφ => ?_)
  · have hc : (Ms.has q.m.kind).contains 99 = false := by
      cases hc : (Ms.has q.m.kind).contains 99
      · rfl
      · rw [hc] at h0; exact absurd h0 (by decide)
    exact .inl ⟨q, bs, by show (if (Ms.has (Ms.plain q.m).kind).contains 99 = true then _ else _) = _; rw [show (Ms.plain q.m).kind = q.m.kind from rfl, hc]; rfl, rfl, hBy, h, hS, rfl, Below.refl _ _, Kb.refl _, fun h => h, fun h => h, fun h => h⟩
  · have hc : (Ms.has q.m.kind).contains 99 = true := by
      cases hc : (Ms.has q.m.kind).contains 99
      · rw [hc] at h1; exact absurd rfl h1
      · rfl
    have hD : Ms.rd_code (Ms.plain q.m, bs) = (Im.rdn 1 bs).bind fun a => some ({ Ms.plain q.m with code := a.1 }, a.2) := by
      show (if (Ms.has (Ms.plain q.m).kind).contains 99 = true then _ else _) = _
      rw [show (Ms.plain q.m).kind = q.m.kind from rfl, hc]; rfl
    have hk := (Kb.refl (B := P) X).call (one_below' X)
    have hb := (one_below' X).mono hS.size
    refine (part_int 1 1 rfl q.m.code P 8 29 q.cells bs b Bb Bp X.drew (by decide) hBy hbB hbP hS.size (h.call (one_below' X) hS.size) hS.box.drew rfl (by decide) (by decide) (by decide)).mono ?_
    rintro e w' (⟨y, rest, hr, rfl, hI, hK, hB⟩ | ⟨hn, hp, hK, cs', hB, hs⟩)
    · have hKK := hk.trans hK.kb
      exact .inl ⟨{ q with m := { q.m with code := y } }, rest, by rw [hD, hr]; rfl, rfl, (Im.rdn_inv hBy hr).2.2.2, hI, hS.kb rfl hKK hK.below.size hB (hS.ri.kb hS.box hKK) (hS.rl.kb hS.box hKK), rfl, hb.trans hK.below, hKK, fun h => h, fun h => h, fun h => h⟩
    · exact .inr ⟨by rw [hD, hn]; rfl, hp, hb.trans hK.below, hk.trans hK.kb, cs', hB, hs⟩
  · rcases hφ with ⟨q', rest, _, h1, _, _, h2, _⟩ | ⟨_, ⟨ss, h1⟩, _⟩
    · exact .inl ⟨h1, h2.by_, h2.msg⟩
    · exact .inr ⟨_, h1⟩
theorem rs_n (q : Ms.S) (P tb tm tq : Nat) (bs : List Int) (b Bb Bp : Nat) (X : World) (hBy : Im.IsBytes bs) (hbB : b ≤ Bb) (hbP : b ≤ P) (h : Rd b Bb Bp bs X) (hS : Rs b P tb tm tq q (.func (.func 60) #[] #[.pointer (some ⟨Bp, 0, none⟩)]) X) :
    Calls Try.prog 66 #[.int .i64 16, .func (.func 71) #[] #[.pointer (some ⟨tb, 0, none⟩), .pointer (some ⟨tm, 0, none⟩)], .pointer (some ⟨tq, 0, none⟩)] X (GotP (Ms.rd_n (Ms.plain q.m, bs)) b Bb Bp P tb tm tq q (.func (.func 60) #[] #[.pointer (some ⟨Bp, 0, none⟩)]) (fun q' => (Ms.NI q → Ms.NI q') ∧ (Ms.NL q → Ms.NL q') ∧ (Ms.ND q → Ms.ND q')) X) := by
  refine pt6 _ (Ms.own q.m.kind) _ P tb tm tq X _ hS.by_ hS.msg hS.own (Ms.own_16 q.m.kind) (fun h0 => ?_) (fun h1 => ?_) (fun e w' hφ => ?_)
  · have hc : (Ms.has q.m.kind).contains 110 = false := by
      cases hc : (Ms.has q.m.kind).contains 110
      · rfl
      · rw [hc] at h0; exact absurd h0 (by decide)
    exact .inl ⟨q, bs, by show (if (Ms.has (Ms.plain q.m).kind).contains 110 = true then _ else _) = _; rw [show (Ms.plain q.m).kind = q.m.kind from rfl, hc]; rfl, rfl, hBy, h, hS, rfl, Below.refl _ _, Kb.refl _, fun h => h, fun h => h, fun h => h⟩
  · have hc : (Ms.has q.m.kind).contains 110 = true := by
      cases hc : (Ms.has q.m.kind).contains 110
      · rw [hc] at h1; exact absurd rfl h1
      · rfl
    have hD : Ms.rd_n (Ms.plain q.m, bs) = (Im.rdn 2 bs).bind fun a => some ({ Ms.plain q.m with n := a.1 }, a.2) := by
      show (if (Ms.has (Ms.plain q.m).kind).contains 110 = true then _ else _) = _
      rw [show (Ms.plain q.m).kind = q.m.kind from rfl, hc]; rfl
    have hk := (Kb.refl (B := P) X).call (one_below' X)
    have hb := (one_below' X).mono hS.size
    refine (part_int 2 2 rfl q.m.n P 9 29 q.cells bs b Bb Bp X.drew (by decide) hBy hbB hbP hS.size (h.call (one_below' X) hS.size) hS.box.drew rfl (by decide) (by decide) (by decide)).mono ?_
    rintro e w' (⟨y, rest, hr, rfl, hI, hK, hB⟩ | ⟨hn, hp, hK, cs', hB, hs⟩)
    · have hKK := hk.trans hK.kb
      exact .inl ⟨{ q with m := { q.m with n := y } }, rest, by rw [hD, hr]; rfl, rfl, (Im.rdn_inv hBy hr).2.2.2, hI, hS.kb rfl hKK hK.below.size hB (hS.ri.kb hS.box hKK) (hS.rl.kb hS.box hKK), rfl, hb.trans hK.below, hKK, fun h => h, fun h => h, fun h => h⟩
    · exact .inr ⟨by rw [hD, hn]; rfl, hp, hb.trans hK.below, hk.trans hK.kb, cs', hB, hs⟩
  · rcases hφ with ⟨q', rest, _, h1, _, _, h2, _⟩ | ⟨_, ⟨ss, h1⟩, _⟩
    · exact .inl ⟨h1, h2.by_, h2.msg⟩
    · exact .inr ⟨_, h1⟩
theorem rs_of (q : Ms.S) (P tb tm tq : Nat) (bs : List Int) (b Bb Bp : Nat) (X : World) (hBy : Im.IsBytes bs) (hbB : b ≤ Bb) (hbP : b ≤ P) (h : Rd b Bb Bp bs X) (hS : Rs b P tb tm tq q (.func (.func 60) #[] #[.pointer (some ⟨Bp, 0, none⟩)]) X) :
    Calls Try.prog 66 #[.int .i64 32, .func (.func 72) #[] #[.pointer (some ⟨tb, 0, none⟩), .pointer (some ⟨tm, 0, none⟩)], .pointer (some ⟨tq, 0, none⟩)] X (GotP (Ms.rd_of (Ms.plain q.m, bs)) b Bb Bp P tb tm tq q (.func (.func 60) #[] #[.pointer (some ⟨Bp, 0, none⟩)]) (fun q' => (Ms.NI q → Ms.NI q') ∧ (Ms.NL q → Ms.NL q') ∧ (Ms.ND q → Ms.ND q')) X) := by
  refine pt7 _ (Ms.own q.m.kind) _ P tb tm tq X _ hS.by_ hS.msg hS.own (Ms.own_32 q.m.kind) (fun h0 => ?_) (fun h1 => ?_) (fun e w' hφ => ?_)
  · have hc : (Ms.has q.m.kind).contains 111 = false := by
      cases hc : (Ms.has q.m.kind).contains 111
      · rfl
      · rw [hc] at h0; exact absurd h0 (by decide)
    exact .inl ⟨q, bs, by show (if (Ms.has (Ms.plain q.m).kind).contains 111 = true then _ else _) = _; rw [show (Ms.plain q.m).kind = q.m.kind from rfl, hc]; rfl, rfl, hBy, h, hS, rfl, Below.refl _ _, Kb.refl _, fun h => h, fun h => h, fun h => h⟩
  · have hc : (Ms.has q.m.kind).contains 111 = true := by
      cases hc : (Ms.has q.m.kind).contains 111
      · rw [hc] at h1; exact absurd rfl h1
      · rfl
    have hD : Ms.rd_of (Ms.plain q.m, bs) = (Im.rdn 2 bs).bind fun a => some ({ Ms.plain q.m with of := a.1 }, a.2) := by
      show (if (Ms.has (Ms.plain q.m).kind).contains 111 = true then _ else _) = _
      rw [show (Ms.plain q.m).kind = q.m.kind from rfl, hc]; rfl
    have hk := (Kb.refl (B := P) X).call (one_below' X)
    have hb := (one_below' X).mono hS.size
    refine (part_int 2 2 rfl q.m.of P 10 29 q.cells bs b Bb Bp X.drew (by decide) hBy hbB hbP hS.size (h.call (one_below' X) hS.size) hS.box.drew rfl (by decide) (by decide) (by decide)).mono ?_
    rintro e w' (⟨y, rest, hr, rfl, hI, hK, hB⟩ | ⟨hn, hp, hK, cs', hB, hs⟩)
    · have hKK := hk.trans hK.kb
      exact .inl ⟨{ q with m := { q.m with of := y } }, rest, by rw [hD, hr]; rfl, rfl, (Im.rdn_inv hBy hr).2.2.2, hI, hS.kb rfl hKK hK.below.size hB (hS.ri.kb hS.box hKK) (hS.rl.kb hS.box hKK), rfl, hb.trans hK.below, hKK, fun h => h, fun h => h, fun h => h⟩
    · exact .inr ⟨by rw [hD, hn]; rfl, hp, hb.trans hK.below, hk.trans hK.kb, cs', hB, hs⟩
  · rcases hφ with ⟨q', rest, _, h1, _, _, h2, _⟩ | ⟨_, ⟨ss, h1⟩, _⟩
    · exact .inl ⟨h1, h2.by_, h2.msg⟩
    · exact .inr ⟨_, h1⟩
theorem rs_bits (q : Ms.S) (P tb tm tq : Nat) (bs : List Int) (b Bb Bp : Nat) (X : World) (hBy : Im.IsBytes bs) (hbB : b ≤ Bb) (hbP : b ≤ P) (h : Rd b Bb Bp bs X) (hS : Rs b P tb tm tq q (.func (.func 60) #[] #[.pointer (some ⟨Bp, 0, none⟩)]) X) :
    Calls Try.prog 66 #[.int .i64 64, .func (.func 73) #[] #[.pointer (some ⟨tb, 0, none⟩), .pointer (some ⟨tm, 0, none⟩)], .pointer (some ⟨tq, 0, none⟩)] X (GotP (Ms.rd_bits (Ms.plain q.m, bs)) b Bb Bp P tb tm tq q (.func (.func 60) #[] #[.pointer (some ⟨Bp, 0, none⟩)]) (fun q' => (Ms.NI q → Ms.NI q') ∧ (Ms.NL q → Ms.NL q') ∧ (Ms.ND q → Ms.ND q')) X) := by
  refine pt8 _ (Ms.own q.m.kind) _ P tb tm tq X _ hS.by_ hS.msg hS.own (Ms.own_64 q.m.kind) (fun h0 => ?_) (fun h1 => ?_) (fun e w' hφ => ?_)
  · have hc : (Ms.has q.m.kind).contains 98 = false := by
      cases hc : (Ms.has q.m.kind).contains 98
      · rfl
      · rw [hc] at h0; exact absurd h0 (by decide)
    exact .inl ⟨q, bs, by show (if (Ms.has (Ms.plain q.m).kind).contains 98 = true then _ else _) = _; rw [show (Ms.plain q.m).kind = q.m.kind from rfl, hc]; rfl, rfl, hBy, h, hS, rfl, Below.refl _ _, Kb.refl _, fun h => h, fun h => h, fun h => h⟩
  · have hc : (Ms.has q.m.kind).contains 98 = true := by
      cases hc : (Ms.has q.m.kind).contains 98
      · rw [hc] at h1; exact absurd rfl h1
      · rfl
    have hD : Ms.rd_bits (Ms.plain q.m, bs) = (Im.rdn 4 bs).bind fun a => some ({ Ms.plain q.m with bits := a.1 }, a.2) := by
      show (if (Ms.has (Ms.plain q.m).kind).contains 98 = true then _ else _) = _
      rw [show (Ms.plain q.m).kind = q.m.kind from rfl, hc]; rfl
    have hk := (Kb.refl (B := P) X).call (one_below' X)
    have hb := (one_below' X).mono hS.size
    refine (part_u32 4 4 rfl q.m.bits P 11 29 q.cells bs b Bb Bp X.drew (by decide) hBy hbB hbP hS.size (h.call (one_below' X) hS.size) hS.box.drew rfl (by decide) (by decide) (by decide)).mono ?_
    rintro e w' (⟨y, rest, hr, rfl, hI, hK, hB⟩ | ⟨hn, hp, hK, cs', hB, hs⟩)
    · have hKK := hk.trans hK.kb
      exact .inl ⟨{ q with m := { q.m with bits := y } }, rest, by rw [hD, hr]; rfl, rfl, (Im.rdn_inv hBy hr).2.2.2, hI, hS.kb rfl hKK hK.below.size hB (hS.ri.kb hS.box hKK) (hS.rl.kb hS.box hKK), rfl, hb.trans hK.below, hKK, fun h => h, fun h => h, fun h => h⟩
    · exact .inr ⟨by rw [hD, hn]; rfl, hp, hb.trans hK.below, hk.trans hK.kb, cs', hB, hs⟩
  · rcases hφ with ⟨q', rest, _, h1, _, _, h2, _⟩ | ⟨_, ⟨ss, h1⟩, _⟩
    · exact .inl ⟨h1, h2.by_, h2.msg⟩
    · exact .inr ⟨_, h1⟩
theorem rs_sum (q : Ms.S) (P tb tm tq : Nat) (bs : List Int) (b Bb Bp : Nat) (X : World) (hBy : Im.IsBytes bs) (hbB : b ≤ Bb) (hbP : b ≤ P) (h : Rd b Bb Bp bs X) (hS : Rs b P tb tm tq q (.func (.func 60) #[] #[.pointer (some ⟨Bp, 0, none⟩)]) X) :
    Calls Try.prog 66 #[.int .i64 128, .func (.func 74) #[] #[.pointer (some ⟨tb, 0, none⟩), .pointer (some ⟨tm, 0, none⟩)], .pointer (some ⟨tq, 0, none⟩)] X (GotP (Ms.rd_sum (Ms.plain q.m, bs)) b Bb Bp P tb tm tq q (.func (.func 60) #[] #[.pointer (some ⟨Bp, 0, none⟩)]) (fun q' => (Ms.NI q → Ms.NI q') ∧ (Ms.NL q → Ms.NL q') ∧ (Ms.ND q → Ms.ND q')) X) := by
  refine pt9 _ (Ms.own q.m.kind) _ P tb tm tq X _ hS.by_ hS.msg hS.own (Ms.own_128 q.m.kind) (fun h0 => ?_) (fun h1 => ?_) (fun e w' hφ => ?_)
  · have hc : (Ms.has q.m.kind).contains 109 = false := by
      cases hc : (Ms.has q.m.kind).contains 109
      · rfl
      · rw [hc] at h0; exact absurd h0 (by decide)
    exact .inl ⟨q, bs, by show (if (Ms.has (Ms.plain q.m).kind).contains 109 = true then _ else _) = _; rw [show (Ms.plain q.m).kind = q.m.kind from rfl, hc]; rfl, rfl, hBy, h, hS, rfl, Below.refl _ _, Kb.refl _, fun h => h, fun h => h, fun h => h⟩
  · have hc : (Ms.has q.m.kind).contains 109 = true := by
      cases hc : (Ms.has q.m.kind).contains 109
      · rw [hc] at h1; exact absurd rfl h1
      · rfl
    have hD : Ms.rd_sum (Ms.plain q.m, bs) = (Im.rdn 8 bs).bind fun a => some ({ Ms.plain q.m with sum := a.1 }, a.2) := by
      show (if (Ms.has (Ms.plain q.m).kind).contains 109 = true then _ else _) = _
      rw [show (Ms.plain q.m).kind = q.m.kind from rfl, hc]; rfl
    have hk := (Kb.refl (B := P) X).call (one_below' X)
    have hb := (one_below' X).mono hS.size
    refine (part_u64 8 8 rfl q.m.sum P 12 29 q.cells bs b Bb Bp X.drew (by decide) hBy hbB hbP hS.size (h.call (one_below' X) hS.size) hS.box.drew rfl (by decide) (by decide) (by decide)).mono ?_
    rintro e w' (⟨y, rest, hr, rfl, hI, hK, hB⟩ | ⟨hn, hp, hK, cs', hB, hs⟩)
    · have hKK := hk.trans hK.kb
      exact .inl ⟨{ q with m := { q.m with sum := y } }, rest, by rw [hD, hr]; rfl, rfl, (Im.rdn_inv hBy hr).2.2.2, hI, hS.kb rfl hKK hK.below.size hB (hS.ri.kb hS.box hKK) (hS.rl.kb hS.box hKK), rfl, hb.trans hK.below, hKK, fun h => h, fun h => h, fun h => h⟩
    · exact .inr ⟨by rw [hD, hn]; rfl, hp, hb.trans hK.below, hk.trans hK.kb, cs', hB, hs⟩
  · rcases hφ with ⟨q', rest, _, h1, _, _, h2, _⟩ | ⟨_, ⟨ss, h1⟩, _⟩
    · exact .inl ⟨h1, h2.by_, h2.msg⟩
    · exact .inr ⟨_, h1⟩
theorem ins_flat : ∀ {l : List Gm.In} {Cs : List (List Value)}, AllGood 3 (fun (p : Gm.In) C => C = p.cells) l Cs → Cs.flatten = Gm.inCells l
  | [], [], _ => rfl
  | v :: l, C :: Cs, h => by
    rw [List.flatten_cons, ins_flat h.2.2, h.2.1]
    rfl
  | [], _ :: _, h => h.elim
  | _ :: _, [], h => h.elim
theorem log_flat {X : World} : ∀ {l : List En.E} {Cs : List (List Value)}, AllGood 26 (GoodEn X) l Cs → ∃ L : List En.S, L.map (fun s => s.e) = l ∧ Cs.flatten = En.sCells L ∧ ∀ s ∈ L, ∃ S2, s.adr = some ⟨S2, 0, none⟩ ∧ s.cap = s.e.evs.length ∧ Box X S2 59 (En.evCells s.e.evs).toArray
  | [], [], _ => ⟨[], rfl, rfl, fun s h => by cases h⟩
  | v :: l, C :: Cs, h => by
    obtain ⟨L, h1, h2, h3⟩ := log_flat h.2.2
    obtain ⟨S2, hC, hB⟩ := h.2.1
    refine ⟨⟨v, some ⟨S2, 0, none⟩, v.evs.length⟩ :: L, by rw [List.map_cons, h1], ?_, fun s hs => ?_⟩
    · rw [List.flatten_cons, h2, hC]; rfl
    · rcases List.mem_cons.1 hs with rfl | hs
      · exact ⟨S2, rfl, rfl, hB⟩
      · exact h3 s hs
  | [], _ :: _, h => h.elim
  | _ :: _, [], h => h.elim
theorem rs_ins (q : Ms.S) (P tb tm tq : Nat) (bs : List Int) (b Bb Bp : Nat) (X : World) (hBy : Im.IsBytes bs) (hbB : b ≤ Bb) (hbP : b ≤ P) (hN : Ms.NI q) (h : Rd b Bb Bp bs X) (hS : Rs b P tb tm tq q (.func (.func 60) #[] #[.pointer (some ⟨Bp, 0, none⟩)]) X) :
    Calls Try.prog 66 #[.int .i64 256, .func (.func 76) #[] #[.pointer (some ⟨tb, 0, none⟩), .pointer (some ⟨tm, 0, none⟩)], .pointer (some ⟨tq, 0, none⟩)] X (GotP (Ms.rdIns (Ms.plain q.m, bs)) b Bb Bp P tb tm tq q (.func (.func 60) #[] #[.pointer (some ⟨Bp, 0, none⟩)]) (fun q' => (Ms.NL q → Ms.NL q') ∧ (Ms.ND q → Ms.ND q')) X) := by
  refine pt10 _ (Ms.own q.m.kind) _ P tb tm tq X _ hS.by_ hS.msg hS.own (Ms.own_256 q.m.kind) (fun h0 => ?_) (fun h1 => ?_) (fun e w' hφ => ?_)
  · have hc : (Ms.has q.m.kind).contains 105 = false := by
      cases hc : (Ms.has q.m.kind).contains 105
      · rfl
      · rw [hc] at h0; exact absurd h0 (by decide)
    exact .inl ⟨q, bs, by show (if (Ms.has (Ms.plain q.m).kind).contains 105 = true then _ else _) = _; rw [show (Ms.plain q.m).kind = q.m.kind from rfl, hc]; rfl, rfl, hBy, h, hS, rfl, Below.refl _ _, Kb.refl _, fun h => h, fun h => h⟩
  · have hc : (Ms.has q.m.kind).contains 105 = true := by
      cases hc : (Ms.has q.m.kind).contains 105
      · rw [hc] at h1; exact absurd rfl h1
      · rfl
    have hD : Ms.rdIns (Ms.plain q.m, bs) = (Im.decL 1 Ms.decInW bs).bind fun a => some ({ Ms.plain q.m with ins := a.1 }, a.2) := by
      show (if (Ms.has (Ms.plain q.m).kind).contains 105 = true then _ else _) = _
      rw [show (Ms.plain q.m).kind = q.m.kind from rfl, hc]; rfl
    have hk := (Kb.refl (B := P) X).call (one_below' X)
    have hb := (one_below' X).mono hS.size
    obtain ⟨n1, n2, n3⟩ := hN
    refine (listzin_r Ms.decInW (fun _ (p : Gm.In) C => C = p.cells) 1 1 rfl P 13 29 q.cells bs b Bb Bp X.drew hBy (by decide) hbB hbP hS.size (h.call (one_below' X) hS.size) hS.box.drew (by show some (Value.slice q.ai q.m.ins.length q.ci) = _; rw [n1, n2, n3]; rfl) (by decide) (by decide) (by decide) (fun _ _ _ _ _ _ _ _ h => h) (fun _ _ _ _ _ _ _ h => h) (eachin_r b Bb Bp X.drew hbB)).mono ?_
    rintro e w' (⟨l, rest, S, Cs, hD2, rfl, hy, hI, hK, hSz, hB, hE, hA⟩ | ⟨hn, hp, hK, hB⟩)
    · have hKK := hk.trans hK.kb
      refine .inl ⟨{ q with m := { q.m with ins := l }, ai := some ⟨S, 0, none⟩, ci := l.length }, rest, by rw [hD, hD2]; rfl, rfl, hy, hI, hS.kb rfl hKK hK.below.size hB (.inr ⟨S, rfl, rfl, by rw [← ins_flat hA]; exact hE⟩) (hS.rl.kb hS.box hKK), rfl, hb.trans hK.below, hKK, fun h => h, fun h => h⟩
    · exact .inr ⟨by rw [hD, hn]; rfl, hp, hb.trans hK.below, hk.trans hK.kb, _, hB, rfl⟩
  · rcases hφ with ⟨q', rest, _, h1, _, _, h2, _⟩ | ⟨_, ⟨ss, h1⟩, _⟩
    · exact .inl ⟨h1, h2.by_, h2.msg⟩
    · exact .inr ⟨_, h1⟩
theorem rs_log (q : Ms.S) (P tb tm tq : Nat) (bs : List Int) (b Bb Bp : Nat) (X : World) (hBy : Im.IsBytes bs) (hbB : b ≤ Bb) (hbP : b ≤ P) (hN : Ms.NL q) (h : Rd b Bb Bp bs X) (hS : Rs b P tb tm tq q (.func (.func 60) #[] #[.pointer (some ⟨Bp, 0, none⟩)]) X) :
    Calls Try.prog 66 #[.int .i64 512, .func (.func 79) #[] #[.pointer (some ⟨tb, 0, none⟩), .pointer (some ⟨tm, 0, none⟩)], .pointer (some ⟨tq, 0, none⟩)] X (GotP (Ms.rdLog (Ms.plain q.m, bs)) b Bb Bp P tb tm tq q (.func (.func 60) #[] #[.pointer (some ⟨Bp, 0, none⟩)]) (fun q' => (Ms.ND q → Ms.ND q')) X) := by
  refine pt11 _ (Ms.own q.m.kind) _ P tb tm tq X _ hS.by_ hS.msg hS.own (Ms.own_512 q.m.kind) (fun h0 => ?_) (fun h1 => ?_) (fun e w' hφ => ?_)
  · have hc : (Ms.has q.m.kind).contains 108 = false := by
      cases hc : (Ms.has q.m.kind).contains 108
      · rfl
      · rw [hc] at h0; exact absurd h0 (by decide)
    exact .inl ⟨q, bs, by show (if (Ms.has (Ms.plain q.m).kind).contains 108 = true then _ else _) = _; rw [show (Ms.plain q.m).kind = q.m.kind from rfl, hc]; rfl, rfl, hBy, h, hS, rfl, Below.refl _ _, Kb.refl _, fun h => h⟩
  · have hc : (Ms.has q.m.kind).contains 108 = true := by
      cases hc : (Ms.has q.m.kind).contains 108
      · rw [hc] at h1; exact absurd rfl h1
      · rfl
    have hD : Ms.rdLog (Ms.plain q.m, bs) = (Im.decL 1 decEntryW bs).bind fun a => some ({ Ms.plain q.m with log := a.1.map fun e => ⟨e, none, 0⟩ }, a.2) := by
      show (if (Ms.has (Ms.plain q.m).kind).contains 108 = true then _ else _) = _
      rw [show (Ms.plain q.m).kind = q.m.kind from rfl, hc]; rfl
    have hk := (Kb.refl (B := P) X).call (one_below' X)
    have hb := (one_below' X).mono hS.size
    obtain ⟨n1, n2, n3⟩ := hN
    refine (listzen_r decEntryW GoodEn 1 1 rfl P 14 29 q.cells bs b Bb Bp X.drew hBy (by decide) hbB hbP hS.size (h.call (one_below' X) hS.size) hS.box.drew (by show some (Value.slice q.al q.m.log.length q.cl) = _; rw [n1, n2, n3]; rfl) (by decide) (by decide) (by decide) (fun _ _ _ _ _ _ hB hK h => goodEn_kept hB (by decide) hK h) (fun _ _ _ _ _ hB hK h => goodEn_kept hB (by decide) hK h) (eachen_r b Bb Bp X.drew hbB)).mono ?_
    rintro e w' (⟨l, rest, S, Cs, hD2, rfl, hy, hI, hK, hSz, hB, hE, hA⟩ | ⟨hn, hp, hK, hB⟩)
    · have hKK := hk.trans hK.kb
      obtain ⟨L, hL1, hL2, hL3⟩ := log_flat hA
      have hlen : l.length = L.length := by rw [← hL1, List.length_map]
      refine .inl ⟨{ q with m := { q.m with log := L }, al := some ⟨S, 0, none⟩, cl := L.length }, rest, ?_, rfl, hy, hI, hS.kb rfl hKK hK.below.size (by rw [hlen] at hB; exact hB) (hS.ri.kb hS.box hKK) (.inr ⟨S, rfl, rfl, by rw [← hL2]; exact hE, hL3⟩), rfl, hb.trans hK.below, hKK, fun h => h⟩
      rw [hD, hD2, Option.bind_some, ← hL1, List.map_map]
      rfl
    · exact .inr ⟨by rw [hD, hn]; rfl, hp, hb.trans hK.below, hk.trans hK.kb, _, hB, rfl⟩
  · rcases hφ with ⟨q', rest, _, h1, _, _, h2, _⟩ | ⟨_, ⟨ss, h1⟩, _⟩
    · exact .inl ⟨h1, h2.by_, h2.msg⟩
    · exact .inr ⟨_, h1⟩
def GotD (D : Option (Ms.M × List Int)) (b Bb Bp P tb tm tq : Nat) (q : Ms.S) (v : Value) (X : World) (e : Ending) (w' : World) : Prop :=
  (∃ q' rest, D = some (Ms.plain q'.m, rest) ∧ e = .returned (.tuple #[]) ∧ Im.IsBytes rest ∧ Rd b Bb Bp rest w' ∧ Rs b P tb tm tq q' v w' ∧ RD q' w' ∧ Below b X w' ∧ Kb P X w') ∨
  (D = none ∧ Pan e ∧ Below b X w' ∧ Kb P X w' ∧ ∃ cs', Box w' P 29 cs' ∧ cs'.size = 16)
theorem rs_data (q : Ms.S) (P tb tm tq : Nat) (bs : List Int) (b Bb Bp : Nat) (X : World) (hBy : Im.IsBytes bs) (hbB : b ≤ Bb) (hbP : b ≤ P) (hN : Ms.ND q) (h : Rd b Bb Bp bs X) (hS : Rs b P tb tm tq q (.func (.func 60) #[] #[.pointer (some ⟨Bp, 0, none⟩)]) X) :
    Calls Try.prog 66 #[.int .i64 1024, .func (.func 82) #[] #[.pointer (some ⟨tb, 0, none⟩), .pointer (some ⟨tm, 0, none⟩)], .pointer (some ⟨tq, 0, none⟩)] X (GotD (Ms.rdData (Ms.plain q.m, bs)) b Bb Bp P tb tm tq q (.func (.func 60) #[] #[.pointer (some ⟨Bp, 0, none⟩)]) X) := by
  refine pt12 _ (Ms.own q.m.kind) _ P tb tm tq X _ hS.by_ hS.msg hS.own (Ms.own_1024 q.m.kind) (fun h0 => ?_) (fun h1 => ?_) (fun e w' hφ => ?_)
  · have hc : (Ms.has q.m.kind).contains 100 = false := by
      cases hc : (Ms.has q.m.kind).contains 100
      · rfl
      · rw [hc] at h0; exact absurd h0 (by decide)
    exact .inl ⟨q, bs, by show (if (Ms.has (Ms.plain q.m).kind).contains 100 = true then _ else _) = _; rw [show (Ms.plain q.m).kind = q.m.kind from rfl, hc]; rfl, rfl, hBy, h, hS, .inl hN, Below.refl _ _, Kb.refl _⟩
  · have hc : (Ms.has q.m.kind).contains 100 = true := by
      cases hc : (Ms.has q.m.kind).contains 100
      · rw [hc] at h1; exact absurd rfl h1
      · rfl
    have hD : Ms.rdData (Ms.plain q.m, bs) = (Im.getB 1 bs).bind fun a => some ({ Ms.plain q.m with data := a.1 }, a.2) := by
      show (if (Ms.has (Ms.plain q.m).kind).contains 100 = true then _ else _) = _
      rw [show (Ms.plain q.m).kind = q.m.kind from rfl, hc]; rfl
    have hk := (Kb.refl (B := P) X).call (one_below' X)
    have hb := (one_below' X).mono hS.size
    obtain ⟨n1, n2, n3⟩ := hN
    have hv := h.isvar
    refine (listby_r [] none 0 0 1 1 rfl P 15 29 q.cells bs b Bb Bp X.drew hBy (by decide) hbB hbP hS.size (h.call (one_below' X) hS.size) hS.box.drew (by obtain ⟨A, n, c, hv⟩ := hv; exact Box.apart hS.box hv (by decide)) (by decide) (by show some (Value.slice q.ad q.m.data.length q.cd) = _; rw [n1, n2, n3]; rfl) (fun X _ => Lies.empty) (by decide) (by decide)).mono ?_
    rintro e w' (⟨l, rest, S, hD2, rfl, hyl, hy, hl, hI, hK, hSz, hB, hE, hO⟩ | ⟨hn, hp, hK, hB⟩)
    · have hKK := hk.trans hK.kb
      exact .inl ⟨{ q with m := { q.m with data := l }, ad := some ⟨S, 0, none⟩, cd := l.length }, rest, by rw [hD, hD2]; rfl, rfl, hy, hI, hS.kb rfl hKK hK.below.size hB (hS.ri.kb hS.box hKK) (hS.rl.kb hS.box hKK), .inr ⟨S, rfl, rfl, hE⟩, hb.trans hK.below, hKK⟩
    · exact .inr ⟨by rw [hD, hn]; rfl, hp, hb.trans hK.below, hk.trans hK.kb, _, hB, rfl⟩
  · rcases hφ with ⟨q', rest, _, h1, _, _, h2, _⟩ | ⟨_, ⟨ss, h1⟩, _⟩
    · exact .inl ⟨h1, h2.by_, h2.msg⟩
    · exact .inr ⟨_, h1⟩
end Go.Proofs.Ytgmlbimgcifenaa