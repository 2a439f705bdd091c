/-
The contracts of package dice, and of the document's: what a text begins with.
-/
import Derived.Test.YtbihnmingedgfaaDp
namespace Go.Proofs.Ytbihnmingedgfaa
open Go.RowKit
set_option linter.unusedVariables false

theorem take_snoc (s : ByteArray) (k : Nat) (h : k < s.size) : s.data.toList.take (k + 1) = s.data.toList.take k ++ [s[k]] := by
  rw [List.take_succ_eq_append_getElem (by simpa using h)]; rfl

theorem mix_wraps (h c : Int) (wh : 0 ≤ h ∧ h ≤ 18446744073709551615) (wc : 0 ≤ c ∧ c ≤ 255) : IntKind.u64.wrap (bits .xor .u64 h c * 1099511628211) = Dn.mix h c := by
  rw [u64_xor h c wh.1 (Int.lt_of_le_of_lt wh.2 (by decide)) wc.1 (Int.lt_of_le_of_lt wc.2 (by decide)), wrap_u64']; rfl

set_option maxHeartbeats 400000 in
theorem refseed_any (s : ByteArray) (w : World) (hs : s.size ≤ maxLen) :
    Calls Try.prog 36 #[.string s] w fun e w' => e = .returned (.int .u64 (Dn.seed s.data.toList)) ∧ w = w' := by
  unfold maxLen at hs
  go_enter Try.func36, Try.ntmps36
  go_wp2
  go_loop [3, 4] (fun n i => ∃ k : Nat, k ≤ s.size ∧ i = .int .i64 k ∧ n = .int .u64 (Dn.seed (s.data.toList.take k))) (fun _ i => s.size - (intOf i).toNat)
  case atStart => exact ⟨0, Nat.zero_le _, rfl, rfl⟩
  case round =>
    obtain ⟨k, hk, rfl, rfl⟩ := hrel
    by_cases hlt : k < s.size
    · have hb := Dn.seed_bd (s.data.toList.take k)
      have hc : (s[k].toNat : Int) ≤ 255 := by have := s[k].toNat_lt; omega
      have hm := mix_wraps (Dn.seed (s.data.toList.take k)) (s[k].toNat : Int) hb (by omega)
      have HS : Hid (Dn.seed (s.data.toList.take (k + 1)) = Dn.mix (Dn.seed (s.data.toList.take k)) (s[k].toNat : Int)) := Lib.hid (by rw [take_snoc s k hlt, Dn.seed_snoc])
      go_wp2
      all_goals
        go_round
        case rel => exact ⟨k + 1, by omega, by go_num, by rw [HS.out]⟩
        case measure => simp [intOf]; omega
    · go_wp2
      go_ret
      exact ⟨ret_int (by rw [List.take_of_length_le (by simp; omega)]), rfl⟩

theorem bytes_cell (s : ByteArray) (cap k : Nat) (hk : k < s.size) : (bytesRow s cap)[k]? = some (.int .u8 (s[k].toNat : Int)) := by
  unfold bytesRow
  rw [Array.getElem?_append_left (by simpa using hk), Array.getElem?_map]
  rw [Array.getElem?_eq_getElem (by simpa using hk)]
  rfl

set_option maxHeartbeats 400000 in
theorem wheel_any (d b p : Int) (w : World) :
    Calls Try.prog 104 #[.int .u64 d, .int .u64 b, .int .u64 p] w fun e w' =>
      e = .returned (.func (.func 141) #[] #[.pointer (some ⟨w.heap.size, 0, none⟩), .pointer (some ⟨w.heap.size + 1, 0, none⟩), .pointer (some ⟨w.heap.size + 2, 0, none⟩)]) ∧
      w' = ((w.alloc (.cells #[.int .u64 d] 24)).alloc (.cells #[.int .u64 b] 24)).alloc (.cells #[.int .u64 p] 24) := by
  have hmf : ∀ (fn : Fn) (first cap : Array Value) (w : World), (Instr.makeFunc fn first cap).run Try.prog w = .ok (.func fn first cap) w := fun _ _ _ _ => rfl
  go_enter Try.func104, Try.ntmps104
  go_wp2
  go_ret
  exact ⟨rfl, rfl⟩

set_option maxHeartbeats 400000 in
theorem turn_seed (d c : Int) (wd : 0 ≤ d ∧ d ≤ 18446744073709551615) (wc : 0 ≤ c ∧ c ≤ 255) (B : Nat) (w : World)
    (h0 : w.heap[B]? = some (.cells #[.int .u64 d] 24 (0, 0))) (h1 : w.heap[B + 1]? = some (.cells #[.int .u64 1099511628211] 24 (0, 0))) (h2 : w.heap[B + 2]? = some (.cells #[.int .u64 0] 24 (0, 0))) :
    Calls Try.prog 141 #[.int .u64 c, .pointer (some ⟨B, 0, none⟩), .pointer (some ⟨B + 1, 0, none⟩), .pointer (some ⟨B + 2, 0, none⟩)] w fun e w' =>
      e = .returned (.int .u64 (Dn.mix d c)) ∧ w' = w.setCell ⟨B, 0, none⟩ (.int .u64 (Dn.mix d c)) := by
  have c0 := cell_of_one h0
  have c1 := cell_of_one h1
  have c2 := cell_of_one h2
  have f0 := free_of_one h0
  have hm := mix_wraps d c wd wc
  have hb := Dn.mix_bd d c
  clear h0 h1 h2
  go_enter Try.func141, Try.ntmps141
  go_wp2
  go_ret
  exact ⟨rfl, rfl⟩

/-- What a round of Seed finds. -/
def Seeding (s : ByteArray) (B : Nat) (w wr : World) (H : Int) : Prop :=
  wr.heap[B]? = some (.cells #[.int .u64 H] 24 (0, 0)) ∧ wr.heap[B + 1]? = some (.cells #[.int .u64 1099511628211] 24 (0, 0)) ∧ wr.heap[B + 2]? = some (.cells #[.int .u64 0] 24 (0, 0)) ∧
  (∀ k (h : k < s.size), wr.cell? ⟨B + 1 + 1 + 1, k, none⟩ = some (.int .u8 (s[k].toNat : Int))) ∧ Below B w wr
theorem Seeding.on {s : ByteArray} {B : Nat} {w wr : World} {H : Int} (h : Seeding s B w wr H) (H' : Int) : Seeding s B w (wr.setCell ⟨B, 0, none⟩ (.int .u64 H')) H' := by
  obtain ⟨h0, h1, h2, hc, hb⟩ := h
  refine ⟨one_setCell h0, (Below.heap_setCell _ _ _ _ (by simp)).trans h1, (Below.heap_setCell _ _ _ _ (by simp)).trans h2, fun k hk => ?_, hb.setCell (Nat.le_refl _) _⟩
  rw [World.cell?_of_block (w := wr) (Below.heap_setCell _ _ _ _ (show B + 1 + 1 + 1 ≠ B by omega))]
  exact hc k hk
theorem at_new (w : World) (o : Obj) (i : Nat) (h : i = w.heap.size) : (w.alloc o).heap[i]? = some o := by subst h; exact heap_alloc_new w o
theorem Seeding.start (s : ByteArray) (w : World) (cap : Nat) (q : Nat × Nat) (H : Int) :
    Seeding s w.heap.size w (((((w.alloc (.cells #[.int .u64 H] 24)).alloc (.cells #[.int .u64 1099511628211] 24)).alloc (.cells #[.int .u64 0] 24)).alloc (.cells (bytesRow s cap) 5 q)).drew) H := by
  refine ⟨?_, ?_, ?_, fun k hk => ?_, ((((((Below.refl _ _).alloc (Nat.le_refl _) _).alloc (by simp) _).alloc (by simp; omega) _).alloc (by simp; omega) _)).drew⟩
  · exact (heap_alloc_old _ _ (by simp; omega)).trans ((heap_alloc_old _ _ (by simp; omega)).trans ((heap_alloc_old _ _ (by simp)).trans (at_new _ _ _ rfl)))
  · exact (heap_alloc_old _ _ (by simp)).trans ((heap_alloc_old _ _ (by simp)).trans (at_new _ _ _ (by simp)))
  · exact (heap_alloc_old _ _ (by simp)).trans (at_new _ _ _ (by simp))
  · have h3 := at_new (((w.alloc (.cells #[.int .u64 H] 24)).alloc (.cells #[.int .u64 1099511628211] 24)).alloc (.cells #[.int .u64 0] 24)) (.cells (bytesRow s cap) 5 q) (w.heap.size + 1 + 1 + 1) (by simp)
    have h4 := bytes_cell s cap k hk
    generalize (((w.alloc (.cells #[.int .u64 H] 24)).alloc (.cells #[.int .u64 1099511628211] 24)).alloc (.cells #[.int .u64 0] 24)).alloc (.cells (bytesRow s cap) 5 q) = W at *
    show W.cell? _ = _
    simp [World.cell?, h3, h4]

set_option maxHeartbeats 400000 in
theorem seed_any (s : ByteArray) (w : World) (hs : s.size ≤ maxLen) :
    Calls Try.prog 52 #[.string s] w fun e w' => e = .returned (.int .u64 (Dn.seed s.data.toList)) ∧ Below w.heap.size w w' := by
  unfold maxLen at hs
  have kc := fun (w : World) => run_bytes_of_string (P := Try.prog) w 9 54 5 s Try.underlying9 Try.underlying54 Try.underlying5
  have hst := fun cap q => Lib.hid (Seeding.start s w cap q 14695981039346656037)
  go_enter Try.func52, Try.ntmps52
  go_wp2_with (go_at_call 104; refine (wheel_any _ _ _ _).mono ?_; rintro e w' ⟨rfl, rfl⟩)
  go_loopw [4, 11] (fun h i wr => ∃ k : Nat, k ≤ s.size ∧ i = .int .i64 k ∧ h = .int .u64 (Dn.seed (s.data.toList.take k)) ∧ Seeding s w.heap.size w wr (Dn.seed (s.data.toList.take k))) (fun _ i _ => s.size - (intOf i).toNat)
  case atStart => exact ⟨0, Nat.zero_le _, rfl, rfl, (hst _ _).out⟩
  case round =>
    obtain ⟨k, hk, rfl, rfl, hS⟩ := hrel
    by_cases hlt : k < s.size
    · obtain ⟨c, hc⟩ : ∃ c : Int, c = (s[k].toNat : Int) := ⟨_, rfl⟩
      have hcell := hS.2.2.2.1 k hlt
      rw [← hc] at hcell
      have wc : 0 ≤ c ∧ c ≤ 255 := by have := s[k].toNat_lt; omega
      have HS : Hid (Dn.seed (s.data.toList.take (k + 1)) = Dn.mix (Dn.seed (s.data.toList.take k)) c) := Lib.hid (by rw [take_snoc s k hlt, Dn.seed_snoc, hc])
      have ct := Lib.hid (turn_seed (Dn.seed (s.data.toList.take k)) c (Dn.seed_bd _) wc w.heap.size wr hS.1 hS.2.1 hS.2.2.1)
      have HN := Lib.hid (hS.on (Dn.mix (Dn.seed (s.data.toList.take k)) c))
      clear hS hc kc hst
      go_wp2_with (go_at_call 141; refine (ct.out).mono ?_; rintro e w' ⟨rfl, rfl⟩)
      all_goals
        go_roundw
        case rel => exact ⟨k + 1, by omega, by go_num, by rw [HS.out], by rw [HS.out]; exact HN.out⟩
        case measure => simp [intOf]; omega
    · have hb := hS.2.2.2.2
      clear hS kc hst
      go_wp2
      go_ret
      exact ⟨ret_int (by rw [List.take_of_length_le (by simp; omega)]), hb⟩
end Go.Proofs.Ytbihnmingedgfaa
