/-
DiceSeeds: the walk.
-/
import Derived.Test.YtcijcfblpibmmaaDt
import Derived.Deep.RegionWith
import Derived.Deep.DrawnRows
import Derived.Laws.BytesString
namespace Go.Proofs.Ytcijcfblpibmmaa
open Go.RowKit
set_option linter.unusedVariables false
attribute [local go_sem ↓] Go.wp_at_zero Go.wp_at_succ

theorem Kept.alloc {v w : World} (h : Kept v w) (o : Obj) : Kept v (w.alloc o) := Below.alloc h (Below.size h) o
theorem Kept.drew {v w : World} (h : Kept v w) : Kept v w.drew := Below.drew h
theorem bcell {W w1 : World} (hb : Below W.heap.size W w1) : (∀ b o, b < W.heap.size → w1.cell? ⟨b, o, none⟩ = W.cell? ⟨b, o, none⟩) :=
  fun b o h => hb.cell (p := ⟨b, o, none⟩) h
theorem one_byte (w : World) (g : Nat) (a : Int) (wa : 0 ≤ a ∧ a ≤ 255) (h : w.cell? ⟨g, 0, none⟩ = some (.int .u8 a)) :
    (convert 34 9 (.slice (some ⟨g, 0, none⟩) 1 1)).run Try.prog w = .ok (.string ⟨#[UInt8.ofNat a.toNat]⟩) w := by
  have := run_convert_bytes_back (P := Try.prog) w 34 9 5 ⟨g, 0, none⟩ 1 [UInt8.ofNat a.toNat] Try.underlying34 Try.underlying5 Try.underlying9 (fun j hj => by
    simp at hj; subst hj
    show w.cell? ⟨g, 0 + 0, none⟩ = some (.int .u8 (((UInt8.ofNat a.toNat).toNat : Nat) : Int))
    have e : (UInt8.ofNat a.toNat).toNat = a.toNat % 256 := rfl
    rw [e, show ((a.toNat % 256 : Nat) : Int) = a from by omega]
    exact h)
  simpa using this

theorem seed_more (s : ByteArray) (a u : Int) (wa : 0 ≤ a ∧ a ≤ 255) (hu : Dn.seed s.data.toList = u) : Dn.seed (s ++ ⟨#[UInt8.ofNat a.toNat]⟩ : ByteArray).data.toList = Dn.mix u a := by
  have e : (UInt8.ofNat a.toNat).toNat = a.toNat % 256 := rfl
  have e2 : (s ++ ⟨#[UInt8.ofNat a.toNat]⟩ : ByteArray).data.toList = s.data.toList ++ [UInt8.ofNat a.toNat] := by simp
  rw [e2, Dn.seed_snoc, hu, e, show ((a.toNat % 256 : Nat) : Int) = a from by omega]

theorem more_len (s : ByteArray) (A : UInt8) (h : s.size ≤ 100) : (s ++ ⟨#[A]⟩ : ByteArray).size ≤ maxLen := by
  rw [ByteArray.size_append]
  have : (⟨#[A]⟩ : ByteArray).size = 1 := rfl
  unfold maxLen; omega

set_option maxRecDepth 100000 in
set_option maxHeartbeats 8000000 in
theorem seeds_walk (a b x y u : Int) (A B : UInt8) (c : Bool) (s : ByteArray) (wa : 0 ≤ a ∧ a ≤ 255) (wb : 0 ≤ b ∧ b ≤ 255) (wu : 0 ≤ u ∧ u ≤ 18446744073709551615) (hA : UInt8.ofNat a.toNat = A) (hB : UInt8.ofNat b.toNat = B)
    (hx : Dn.seed (s ++ ⟨#[A]⟩ : ByteArray).data.toList = x) (hy : Dn.seed (s ++ ⟨#[B]⟩ : ByteArray).data.toList = y) (hu : Dn.seed s.data.toList = u) (hm : IntKind.u64.wrap (bits .xor .u64 u a * 1099511628211) = x)
    (hxy : (x == y) = c) (hab : (a == b) = c) (hl : s.size ≤ 100) (w : World) :
    Calls Try.prog 6 #[.int .u8 a, .int .u8 b, .string s] w fun e w' => e = .returned (.bool true) ∧ Kept w w' := by
  have hk := Kept.refl w
  have oa := fun w g => one_byte w g a wa
  have ob := fun w g => one_byte w g b wb
  rw [hA] at oa
  rw [hB] at ob
  have c0 := fun (X : World) (hX : Kept w X) => Lib.hid (told_t hX)
  have ca := fun (X : World) => Lib.hid (seed_any (s ++ ⟨#[A]⟩) X (more_len s A hl))
  have cb := fun (X : World) => Lib.hid (seed_any (s ++ ⟨#[B]⟩) X (more_len s B hl))
  have cs := fun (X : World) (hX : Kept w X) => Lib.hid (seed_t hX s u (by simp [maxLen]; omega) hu)
  rw [hx] at ca
  rw [hy] at cb
  have n2 : w.heap.size < w.heap.size + 1 + 1 := by omega
  clear hA hB hx hy hu
  go_enter Try.func6, Try.ntmps6
  go_wp2
  go_region_with (go_at_call 15; first | ((with_reducible refine ((ca _).out).mono ?_); rintro e w' ⟨rfl, hb⟩; have hc := bcell hb; have hk := Kept.on (by repeat (first | assumption | apply Kept.alloc | apply Kept.drew)) hb; clear hb) | ((with_reducible refine ((cb _).out).mono ?_); rintro e w' ⟨rfl, hb⟩; have hc := bcell hb; have hk := Kept.on (by repeat (first | assumption | apply Kept.alloc | apply Kept.drew)) hb; clear hb))
  all_goals
    clear ca cb oa ob n2
    go_wp2_with (first | (go_at_call 8; ((with_reducible refine ((c0 _ (by assumption)).out).mono ?_); rintro e w' ⟨rfl, hk⟩)) | (go_at_call 15; ((with_reducible refine ((cs _ (by assumption)).out).mono ?_); rintro e w' ⟨rfl, hk⟩)))
    go_ret
    exact ⟨ret_bool (by simp), by assumption⟩

set_option maxRecDepth 100000 in
set_option maxHeartbeats 2000000 in
theorem seeds_long (a b : Int) (s : ByteArray) (wa : 0 ≤ a ∧ a ≤ 255) (wb : 0 ≤ b ∧ b ≤ 255) (hl : 100 < s.size) (hs : s.size ≤ 9223372036854775807) (w : World) :
    Calls Try.prog 6 #[.int .u8 a, .int .u8 b, .string s] w fun e w' => e = .returned (.bool true) ∧ Kept w w' := by
  have hk := Kept.refl w
  have c0 := fun (X : World) (hX : Kept w X) => Lib.hid (told_t hX)
  go_enter Try.func6, Try.ntmps6
  go_wp2_with (go_at_call 8; ((with_reducible refine ((c0 _ (by assumption)).out).mono ?_); rintro e w' ⟨rfl, hk⟩))
  go_ret
  exact ⟨ret_bool (by simp), by assumption⟩

theorem seeds_law (a b : Int) (s : ByteArray) (wa : 0 ≤ a ∧ a ≤ 255) (wb : 0 ≤ b ∧ b ≤ 255) (hs : s.size ≤ maxLen) (w : World) :
    Calls Try.prog 6 #[.int .u8 a, .int .u8 b, .string s] w fun e w' => e = .returned (.bool true) ∧ Kept w w' := by
  by_cases hl : 100 < s.size
  · exact seeds_long a b s wa wb hl hs w
  · have hu := Dn.seed_bd s.data.toList
    have hx := seed_more s a _ wa rfl
    have hy := seed_more s b _ wb rfl
    have hm := mix_wraps _ a hu wa
    have hi := Dn.mix_inj hu wa wb
    refine seeds_walk a b _ _ _ _ _ (a == b) s wa wb hu rfl rfl hx hy rfl hm ?_ rfl (by omega) w
    rw [Bool.eq_iff_iff]; simpa using hi

end Go.Proofs.Ytcijcfblpibmmaa
