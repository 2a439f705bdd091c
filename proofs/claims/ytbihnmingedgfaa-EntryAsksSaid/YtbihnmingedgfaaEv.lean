/-
EntryLong, EntryEvents: how long an entry is; two events.
-/
import Derived.Test.YtbihnmingedgfaaEk
namespace En
open Go
theorem ins_cnt (f : Nat → Gm.In) : ∀ k, ∃ m, (insBytes f k).length = 3 * m ∧ m ≤ k
  | 0 => ⟨0, rfl, Nat.le_refl _⟩
  | k + 1 => by
    obtain ⟨m, h1, h2⟩ := ins_cnt f k
    unfold insBytes
    rw [List.length_append, h1]
    cases hz : zero (f k)
    · exact ⟨m + 1, by simp [inBytes_len]; omega, by omega⟩
    · exact ⟨m, by simp, by omega⟩
theorem put_len (e : E) : (put e).length = 6 + 5 * e.evs.length + (insBytes e.inp 8).length := by
  unfold put
  simp only [List.length_append, Im.bytesOf_len, evsBytes_len]
  omega
theorem ins_step (f : Nat → Gm.In) (k : Nat) : (insBytes f (k + 1)).length = (insBytes f k).length + (if zero (f k) = true then 0 else 3) := by
  show (insBytes f k ++ (if zero (f k) then [] else inBytes (f k))).length = _
  rw [List.length_append]
  split
  · simp
  · rw [inBytes_len]
theorem row1 {v : Ev} : Row (-1) [v] ↔ evOk v := ⟨fun h => h.1.1, fun h => ⟨⟨h, by have := (place_lt h).1; omega⟩, trivial⟩⟩
theorem row2 {a b : Ev} (ha : evOk a) (hb : evOk b) : Row (-1) [a, b] ↔ (a.kind = b.kind ∧ a.slot < b.slot) ∨ (a.kind = 2 ∧ b.kind = 1) := by
  have h1 := (place_lt ha).1
  have e : Row (-1) [a, b] ↔ place a < place b := ⟨fun h => h.2.1.2, fun h => ⟨⟨ha, by omega⟩, ⟨hb, h⟩, trivial⟩⟩
  rw [e]
  obtain ⟨k1, s1, _⟩ := ha
  obtain ⟨k2, s2, _⟩ := hb
  unfold place
  rcases k1 with k1 | k1 <;> rcases k2 with k2 | k2 <;> rw [k1, k2] <;> simp <;> omega
end En
namespace Go.Proofs.Ytbihnmingedgfaa
open Go.RowKit Go.Shelf
set_option linter.unusedVariables false
set_option linter.unusedSimpArgs false

set_option maxRecDepth 100000 in
set_option maxHeartbeats 4000000 in
theorem long9_law (q : En.S) (w : World) (hty : En.Ty q.e) (hn63 : q.e.evs.length ≤ maxLen) (hr : Lies w w.heap.size 4 q.adr q.e.evs.length (En.evCells q.e.evs)) :
    Calls Try.prog 13 #[.agg (En.cells q.e q.sl)] w fun e w' => e = .returned (.bool true) ∧ Below w.heap.size w w' := by
  obtain ⟨e, A, c⟩ := q
  dsimp only [En.S.sl] at *
  have P0 := Lib.hid (Box.made w 72 (En.cells e (.slice A e.evs.length c)))
  have K0 := Lib.hid (one_below w (.cells (En.cells e (.slice A e.evs.length c)) 72))
  have hr0 := (hr.below K0.out).wider K0.out.size
  have ct := fun X => Lib.hid (told9_any X)
  by_cases hok : En.Ok e
  · have hm := En.put_len e
    have hn16 := hok.count
    have cp := Lib.hid (enput_yes e A e.evs.length c _ hok hty.ins rfl hr0)
    generalize (En.put e).length = m at hm cp
    generalize En.put e = bs at cp
    have hib := En.insBytes_le e.inp 8
    generalize hnl : e.evs.length = n at *
    have HM := Lib.hid hm
    have HIB := Lib.hid hib
    clear hr hr0 hty hok hm hn63 hnl hib
    go_enter Try.func13, Try.ntmps13
    go_wp2_with (first | ((with_reducible refine en_load rfl rfl ?_); apply LoadEn.mk rfl; (focus (with_reducible exact P0.out)); dsimp only) | (go_at_call 42; ((with_reducible refine (cp.out).mono ?_); rintro r w1 ⟨A1, c1, rfl, _, _, _, hb⟩; have P1 := Lib.hid (P0.out.below hb P0.out.lt); have K1 := Lib.hid (K0.out.trans (hb.mono K0.out.size)); have p1 := (P1.out.cell 1).trans (En.cells_1 _ _); clear hb cp)))
    go_loopw [5, 6] (fun l i wr => ∃ k : Nat, k ≤ 8 ∧ i = .int .i64 k ∧ l = .int .i64 (6 + 5 * (n : Int) + ((En.insBytes e.inp k).length : Int)) ∧ w1 = wr) (fun _ i _ => 8 - (intOf i).toNat)
    case atStart => exact ⟨0, by omega, rfl, by simp [En.insBytes], rfl⟩
    case round =>
      obtain ⟨k, hk, rfl, rfl, rfl⟩ := hrel
      by_cases hlt : k < 8
      · have hk8 : (k : Int) < 8 := by omega
        have e0 := (P1.out.cell (2 + k * 3)).trans (En.cells_in e _ k 0 hlt (by omega))
        have e1 := (P1.out.cell (2 + k * 3 + 1)).trans (En.cells_in e _ k 1 hlt (by omega))
        have e2 := (P1.out.cell (2 + k * 3 + 2)).trans (En.cells_in e _ k 2 hlt (by omega))
        have hstep := En.ins_step e.inp k
        have hle := En.insBytes_le e.inp k
        obtain ⟨p, hp⟩ : ∃ p, p = e.inp k := ⟨_, rfl⟩
        rw [← hp] at e0 e1 e2 hstep
        obtain ⟨x, y, u⟩ := p
        simp only [Gm.In.cells, List.getElem?_cons_zero, List.getElem?_cons_succ, Nat.add_zero] at e0 e1 e2
        have hneq := fun W => in_neq x y u W
        obtain ⟨q, hq⟩ : ∃ q, q = (En.insBytes e.inp k).length := ⟨_, rfl⟩
        rw [← hq] at hstep hle ⊢
        have HT := Lib.hid hstep
        have ltP := P1.out.lt
        clear hp hq hstep
        cases hz : En.zero ⟨x, y, u⟩
        · rw [hz] at hneq HT
          clear hz
          go_wp2
          go_roundw
          case rel => exact ⟨k + 1, by omega, by go_num, by rw [HT.out]; simp; omega, by first | rfl | trivial⟩
          case measure => simp [intOf]; omega
        · rw [hz] at hneq HT
          clear hz
          go_wp2
          go_roundw
          case rel => exact ⟨k + 1, by omega, by go_num, by rw [HT.out]; simp, by first | rfl | trivial⟩
          case measure => simp [intOf]; omega
      · have hk8 : ¬ (k : Int) < 8 := by omega
        obtain rfl : k = 8 := by omega
        have hmi : (m : Int) = 6 + 5 * (n : Int) + ((En.insBytes e.inp 8).length : Int) := by have := HM.out; omega
        obtain ⟨L, hL⟩ : ∃ L, L = 6 + 5 * (n : Int) + ((En.insBytes e.inp 8).length : Int) := ⟨_, rfl⟩
        rw [← hL] at hmi ⊢
        have HMI := Lib.hid hmi
        clear hL hmi
        go_wp2_with (go_at_call 40; ((with_reducible refine ((ct _).out).mono ?_); rintro r w2 ⟨rfl, hb⟩; have K2 := Lib.hid (K1.out.trans (hb.mono K1.out.size)); clear hb))
        go_ret
        exact ⟨ret_bool (by simp [HMI.out]), K2.out⟩
  · have cp := Lib.hid (enput_no e A e.evs.length c _ hok rfl hn63 hr0)
    clear hr hr0 hty hok
    go_enter Try.func13, Try.ntmps13
    go_wp2_with (first | ((with_reducible refine en_load rfl rfl ?_); apply LoadEn.mk rfl; (focus (with_reducible exact P0.out)); dsimp only) | (go_at_call 42; ((with_reducible refine (cp.out).mono ?_); rintro r w1 ⟨rfl, hb⟩; have K1 := Lib.hid (K0.out.trans (hb.mono K0.out.size)); clear hb)) | (go_at_call 40; ((with_reducible refine ((ct _).out).mono ?_); rintro r w2 ⟨rfl, hb⟩; have K2 := Lib.hid (K1.out.trans (hb.mono K1.out.size)); clear hb)))
    go_ret
    exact ⟨ret_bool (by simp), K2.out⟩
end Go.Proofs.Ytbihnmingedgfaa
