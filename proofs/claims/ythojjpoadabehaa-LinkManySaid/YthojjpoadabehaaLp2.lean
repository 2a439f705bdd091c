/-
Several texts in one: Cd Ce Cf Da Db Bd Op Dc Dg Cg Ch Dh Dj.
-/
import Derived.Test.YthojjpoadabehaaLp1
namespace Go.Proofs.Ythojjpoadabehaa
open Go.RowKit
set_option linter.unusedVariables false

theorem refnote_anyL (x : Sr.Lx) (h : Sr.H) (ho : h.Ok) (s : Int) (hs : 0 ≤ s ∧ s ≤ 65535) (B : Nat) (w : World) (hB : Box w B 40 (h.lcells x)) :
    Calls Try.prog 27 #[.pointer (some ⟨B, 1, none⟩), .int .u16 s] w fun e w' => e = .returned (.bool (Sr.fresh h s)) ∧ Box w' B 40 ((Sr.note h s).lcells x) ∧ Only B w w' := by
  obtain ⟨so, la, se⟩ := h
  have ha : 0 ≤ la ∧ la ≤ 65535 := ho.last
  cases so
  · obtain ⟨e1, e2⟩ := Sr.note_first (h := ⟨false, la, se⟩) rfl s
    rw [e1, e2]
    have h1 := rnote_oneL x la s (Sr.came ⟨false, la, se⟩) B w hB
    rw [Sr.lc_congr (x := x) (so := true) (la := s) (fun i hi => (Sr.came_first s se ⟨false, la, se⟩ rfl i hi).symm)] at h1
    exact h1
  · by_cases hd : 0 < Sr.way la s
    · obtain ⟨e1, e2⟩ := Sr.note_ahead (h := ⟨true, la, se⟩) rfl hd
      rw [e1, e2]
      have h1 := rnote_onL x la s (Sr.came ⟨true, la, se⟩) ha hs (Sr.way la s).toNat (by omega) (by omega) rfl B w hB
      rw [Sr.lc_congr (x := x) (so := true) (la := s) (fun i hi => (Sr.came_up (h := ⟨true, la, se⟩) rfl s (Sr.way la s) hd i hi).symm)] at h1
      exact h1
    · have hw := Sr.way_back la s
      have hwb := Sr.way_bd la s
      by_cases hf : Sr.way la s < -32
      · obtain ⟨e1, e2⟩ := Sr.note_old (h := ⟨true, la, se⟩) rfl hd (.inl (Sr.bitN_none (by dsimp only; omega)))
        rw [e1, e2]
        exact rnote_farL x la s _ ha hs hf B w hB
      · obtain ⟨k, hk⟩ : ∃ k : Nat, Sr.way la s = -(k : Int) := ⟨(-Sr.way la s).toNat, by omega⟩
        have hks : Sr.way s la = (k : Int) := by omega
        have hk32 : k ≤ 32 := by omega
        cases hc : Sr.came ⟨true, la, se⟩ k
        · have hk1 : 1 ≤ k := by
            cases k with
            | zero => cases hc
            | succ k => omega
          have hch := Sr.came_has ⟨true, la, se⟩ (k : Int) (by omega)
          rw [Int.toNat_natCast, hc] at hch
          obtain ⟨e1, e2⟩ := Sr.note_behind (h := ⟨true, la, se⟩) (s := s) rfl hd (by rw [hks]; exact Sr.bitN_some (by omega)) (by rw [hks]; exact hch.symm)
          rw [e1, e2]
          have h1 := rnote_lateL x la s (Sr.came ⟨true, la, se⟩) ha hs k hk hk32 hc B w hB
          rw [Sr.lc_congr (x := x) (so := true) (la := la) (fun i hi => (show (if i = k then true else Sr.came ⟨true, la, se⟩ i) = Sr.came ⟨true, la, se ||| Sr.bitN (Sr.way s la)⟩ i from by
            rw [hks]; exact (Sr.came_late (h := ⟨true, la, se⟩) rfl (k : Int) (by omega) i).symm))] at h1
          exact h1
        · obtain ⟨e1, e2⟩ := Sr.note_old (h := ⟨true, la, se⟩) (s := s) rfl hd (by
            by_cases hk1 : 1 ≤ k
            · right
              have hch := Sr.came_has ⟨true, la, se⟩ (k : Int) (by omega)
              rw [Int.toNat_natCast, hc] at hch
              rw [hks]; exact hch.symm
            · left
              rw [hks]; exact Sr.bitN_none (by omega))
          rw [e1, e2]
          exact rnote_cameL x la s _ ha hs k hk hk32 hc B w hB

set_option maxHeartbeats 1000000 in
theorem reflast_anyL (x : Sr.Lx) (h : Sr.H) (ho : h.Ok) (B : Nat) (w : World) (hB : Box w B 40 (h.lcells x)) :
    Calls Try.prog 21 #[.pointer (some ⟨B, 1, none⟩)] w fun e w' => e = .returned (.tuple #[.int .u16 h.last, .int .u32 (h.seen : Nat)]) ∧ w = w' := by
  have q1 : w.cell? ⟨B, 2, none⟩ = some (.int .u16 h.last) := hB.cell 2
  have hq := Lib.hid (fun (i : Nat) (hi : i < 33) => (hB.cell (3 + i)).trans (Sr.lc_at x h.some h.last (Sr.came h) i hi))
  have hse := ho.seen
  obtain ⟨so, la, se⟩ := h
  dsimp only at q1 hse ⊢
  clear hB ho
  go_enter Try.func21, Try.ntmps21
  go_wp2
  go_loop [4, 5] (fun b i => ∃ j : Nat, j ≤ 32 ∧ i = .int .i64 ((j + 1 : Nat) : Int) ∧ b = .int .u32 ((se % 2 ^ j : Nat) : Int)) (fun _ i => 33 - (intOf i).toNat)
  case atStart => exact ⟨0, Nat.zero_le _, rfl, by rw [Nat.pow_zero, Nat.mod_one]; rfl⟩
  case round =>
    obtain ⟨j, hj, rfl, rfl⟩ := hrel
    by_cases hlt : j < 32
    · have hn := Sr.low_next se j
      have q2 : w.cell? ⟨B, 3 + (j + 1), none⟩ = some (.bool (se.testBit j)) := hq.out (j + 1) (by omega)
      have hjl : ((j + 1 : Nat) : Int) < 33 := by omega
      have hsub : ((j + 1 : Nat) : Int) - 1 = (j : Int) := by omega
      have hsh := shift_one j hlt
      have hor := u32_or_nat (se % 2 ^ j) (2 ^ j) (Nat.lt_of_le_of_lt (Nat.mod_le _ _) hse) (by have : (2 : Nat) ^ j < 2 ^ 32 := Nat.pow_lt_pow_of_lt (by decide) hlt; omega)
      cases hb : se.testBit j
      · rw [hb] at hn q2
        have HN := Lib.hid hn
        clear hn hor hsh
        go_wp2
        go_round
        case rel => exact ⟨j + 1, by omega, by go_num, by rw [HN.out]; rfl⟩
        case measure => simp [intOf]; omega
      · rw [hb] at hn q2
        have HN := Lib.hid hn
        have HR := Lib.hid hor
        have E1 := Lib.hid (show (se : Int) % 2 ^ j = ((se % 2 ^ j : Nat) : Int) by rw [Int.natCast_emod, Int.natCast_pow]; rfl)
        have E2 := Lib.hid (pow_lt32 j hlt)
        clear hn hor
        go_wp2
        go_round
        case rel => exact ⟨j + 1, by omega, by go_num, by rw [HN.out, if_pos rfl, E1.out, E2.out, HR.out]⟩
        case measure => simp [intOf]; omega
    · obtain rfl : j = 32 := by omega
      have hmod : se % 2 ^ 32 = se := Nat.mod_eq_of_lt hse
      rw [hmod]
      go_wp2
      go_ret2
      exact ⟨rfl, rfl⟩
end Go.Proofs.Ythojjpoadabehaa
namespace Lk
open Go Go.RowKit
/-- A link. -/
structure M where
  ser : Int
  h : Sr.H
  at_ : Int
  op : List Int
def new (now : Int) : M := ⟨0, Sr.none, now, []⟩
def next (m : M) : Int := (m.ser + 1) % 65536
/-- At most so many are open. -/
def few (l : List Int) : List Int := if 64 < l.length then l.drop 1 else l
def stamp (m : M) : M := { m with ser := next m, op := few (m.op ++ [next m]) }
def hear (m : M) (now s ack : Int) (seen : Nat) : M := ⟨m.ser, Sr.note m.h s, max m.at_ now, m.op.filter fun x => !Sr.told x ack seen⟩
def fresh (m : M) (s : Int) : Bool := Sr.fresh m.h s
def quiet (m : M) (now : Int) : Int := if now ≤ m.at_ then 0 else wrap64 (now - m.at_)
structure M.Ok (m : M) : Prop where
  ser : 0 ≤ m.ser ∧ m.ser ≤ 65535
  h : m.h.Ok
  at_ : -9223372036854775808 ≤ m.at_ ∧ m.at_ ≤ 9223372036854775807
  op : ∀ x ∈ m.op, 0 ≤ x ∧ x ≤ 65535
  few : m.op.length ≤ 64
def u16s (l : List Int) : List Value := l.map fun x => .int .u16 x
theorem u16s_len (l : List Int) : (u16s l).length = l.length := List.length_map _
theorem next_bd (m : M) : 0 ≤ next m ∧ next m ≤ 65535 := by unfold next; omega
theorem new_ok {now : Int} (h : -9223372036854775808 ≤ now ∧ now ≤ 9223372036854775807) : (new now).Ok := ⟨by unfold new; dsimp only; omega, Sr.none_ok, h, (fun x hx => absurd hx List.not_mem_nil), Nat.zero_le _⟩
theorem few_len {l : List Int} (h : l.length ≤ 65) : (few l).length ≤ 64 := by
  unfold few
  split
  · rw [List.length_drop]; omega
  · omega
theorem few_mem {l : List Int} {x : Int} (h : x ∈ few l) : x ∈ l := by
  unfold few at h
  split at h
  · exact List.mem_of_mem_drop h
  · exact h
theorem stamp_ok {m : M} (h : m.Ok) : (stamp m).Ok := by
  refine ⟨next_bd m, h.h, h.at_, fun x hx => ?_, few_len (by rw [List.length_append]; have := h.few; show _ + 1 ≤ 65; omega)⟩
  rcases List.mem_append.1 (few_mem hx) with hx | hx
  · exact h.op x hx
  · obtain rfl := List.mem_singleton.1 hx; exact next_bd m
theorem hear_ok {m : M} (h : m.Ok) {now s : Int} (hn : -9223372036854775808 ≤ now ∧ now ≤ 9223372036854775807) (hs : 0 ≤ s ∧ s ≤ 65535) (ack : Int) (seen : Nat) : (hear m now s ack seen).Ok :=
  ⟨h.ser, Sr.note_ok h.h hs, by have := h.at_; unfold hear; dsimp only; omega, fun x hx => h.op x ((List.mem_filter.1 hx).1), Nat.le_trans (List.length_filter_le _ _) h.few⟩
end Lk
namespace Go.Proofs.Ythojjpoadabehaa
open Go.RowKit
set_option linter.unusedVariables false
/-- A row of numbers of one's own, from wherever in its block. -/
structure Que (w : World) (base : Nat) (A : Option Addr) (n c : Nat) (xs : List Value) : Prop where
  len : xs.length = n
  le : n ≤ c
  max : c ≤ maxLen
  at_ : (A = none ∧ n = 0 ∧ c = 0) ∨ ∃ g off cells, A = some ⟨g, off, none⟩ ∧ base ≤ g ∧ Box w g 28 cells ∧ off + c ≤ cells.size ∧ ∀ j, j < n → cells[off + j]? = xs[j]?
theorem Que.nil (w : World) (base : Nat) : Que w base none 0 0 [] := ⟨rfl, Nat.le_refl _, Nat.zero_le _, .inl ⟨rfl, rfl, rfl⟩⟩
section
variable {w w' : World} {base n c : Nat} {A : Option Addr} {xs : List Value}
theorem Que.keep (h : Que w base A n c xs) (hk : ∀ g cs, A.map (·.block) = some g → Box w g 28 cs → Box w' g 28 cs) : Que w' base A n c xs := by
  refine ⟨h.len, h.le, h.max, ?_⟩
  rcases h.at_ with h0 | ⟨g, off, cells, rfl, hb, hB, h1, h2⟩
  · exact .inl h0
  · exact .inr ⟨g, off, cells, rfl, hb, hk g _ rfl hB, h1, h2⟩
theorem Que.below (h : Que w base A n c xs) (hb : Below w.heap.size w w') : Que w' base A n c xs := h.keep fun g cs _ k => k.below hb k.lt
theorem Que.far (h : Que w base A n c xs) {p : Addr} {t : TypeId} {cs : Array Value} (hp : Box w p.block t cs) (ht : t ≠ 28) (u : Value) : Que (w.setCell p u) base A n c xs := h.keep fun g cs' _ k => k.far (p := p) (Box.apart k hp (Ne.symm ht)) u
/-- Cut in front. -/
theorem Que.tail (h : Que w base A n c xs) (hn : 0 < n) : ∃ g off, A = some ⟨g, off, none⟩ ∧ Que w base (some ⟨g, off + 1, none⟩) (n - 1) (c - 1) (xs.drop 1) := by
  rcases h.at_ with ⟨_, h0, _⟩ | ⟨g, off, cells, rfl, hb, hB, h1, h2⟩
  · omega
  · have hl := h.le
    have hx := h.len
    refine ⟨g, off, rfl, ⟨by rw [List.length_drop]; omega, by omega, Nat.le_trans (Nat.sub_le _ _) h.max, .inr ⟨g, off + 1, cells, rfl, hb, hB, by omega, fun j hj => ?_⟩⟩⟩
    have := h2 (j + 1) (by omega)
    rw [List.getElem?_drop, show 1 + j = j + 1 by omega, ← this]
    congr 1
    omega
theorem Que.lies (h : Que w base A n c xs) : Lies w w.heap.size 1 A n xs := by
  rcases h.at_ with ⟨rfl, h0, _⟩ | ⟨g, off, cells, rfl, hb, hB, h1, h2⟩
  · have hx := h.len
    subst h0
    obtain rfl : xs = [] := List.eq_nil_of_length_eq_zero hx
    exact Lies.empty
  · have hx := h.len
    refine ⟨by omega, fun _ => ⟨_, rfl, hB.lt⟩, fun ad e _ j u hj => ?_⟩
    injection e with e
    subst e
    have hjn : j < n := by have := (List.getElem?_eq_some_iff.1 hj).1; omega
    have ha : Addr.add ⟨g, off, none⟩ j = ⟨g, off + j, none⟩ := by unfold Addr.add; split <;> simp_all
    rw [ha, hB.cell, h2 j hjn]
    exact hj
end
theorem u16_infoQ : (Try.prog.info? 28).map (fun i => (i.zero, i.size, i.bytes)) = some (some (Value.int .u16 0), 1, 2) := by kernel_rfl
theorem Que.owned {w : World} {base n c : Nat} {A : Option Addr} {xs : List Value} (h : w.ownsRow base 28 1 (.slice A n c) n xs) : Que w base A n c xs := by
  obtain ⟨hl, ⟨hv, h0⟩ | ⟨g, cap, cur, hv, hbg, hg, hnc, hmx, hsz, htake⟩⟩ := h
  · injection hv with h1 h2 h3
    subst h1 h2 h3
    rw [Nat.zero_mul] at hl
    obtain rfl := List.eq_nil_of_length_eq_zero hl
    exact Que.nil w base
  · injection hv with h1 _ h3
    subst h1 h3
    rw [Nat.mul_one] at hl hsz htake
    refine ⟨hl, hnc, hmx, .inr ⟨g, 0, cur, rfl, hbg, ⟨hg⟩, by omega, fun j hj => ?_⟩⟩
    rw [← htake, List.getElem?_take, if_pos hj, Nat.zero_add]
    simp
theorem Que.lower {w : World} {base base' n c : Nat} {A : Option Addr} {xs : List Value} (h : Que w base A n c xs) (hb : base' ≤ base) : Que w base' A n c xs :=
  ⟨h.len, h.le, h.max, h.at_.imp id fun ⟨g, off, cells, e, hg, r⟩ => ⟨g, off, cells, e, Nat.le_trans hb hg, r⟩⟩
theorem Que.grown_box {w w' : World} {base n c g : Nat} {A : Option Addr} {xs : List Value} {t : TypeId} {cs : Array Value} (h : Que w base A n c xs) (hB : Box w g t cs) (ht : t ≠ 28) (hg : w.grownBy w' (A.map (·.block))) : Box w' g t cs := by
  refine ⟨(hg.block g hB.lt fun e => ?_).trans hB.is⟩
  rcases h.at_ with ⟨rfl, _⟩ | ⟨g', off, cells, rfl, _, hQ, _⟩
  · cases e
  · have e' : g = g' := by injection e
    exact Box.apart hB hQ ht e'
/-- One more behind. -/
theorem Que.append {w : World} {base n c : Nat} {A : Option Addr} {xs : List Value} (h : Que w base A n c xs) (hbase : base ≤ w.heap.size) (v : Int) {ad : Addr} {k : Nat} {ty : TypeId} (hx : ∀ j u, [Value.int .u16 v][j]? = some u → w.cell? (ad.add j) = some u) (hn : n ≤ 1000) :
    ∃ A' c' w', (Builtin.append_ #[38, 38] ty #[.slice A n c, .slice (some ad) 1 k]).run Try.prog w = .ok (.slice A' (n + 1) c') w' ∧ Que w' base A' (n + 1) c' (xs ++ [.int .u16 v]) ∧ w.grownBy w' (A.map (·.block)) ∧ (A'.map (·.block) = A.map (·.block) ∨ ∀ g, A'.map (·.block) = some g → w.heap.size ≤ g) := by
  obtain ⟨i, hi, hz, hs, hby⟩ := info_parts u16_infoQ
  have h1c : ∀ u ∈ [Value.int .u16 v], u.oneCell' = true := fun u hu => by obtain rfl := List.mem_singleton.1 hu; rfl
  have hxl := h.len
  rcases h.at_ with ⟨rfl, h0, hc0⟩ | ⟨g, off, cells, rfl, hb, hB, hsz, hat⟩
  · subst h0 hc0
    obtain rfl : xs = [] := List.eq_nil_of_length_eq_zero hxl
    obtain ⟨v', w', hrun, r1, r2, _⟩ := run_append_own (P := Try.prog) w w.heap.size 38 ty 28 i (.int .u16 0) 1 2 Try.underlying38 hi hz hs hby rfl (by decide) (.slice none 0 0) 0 [] (World.ownsRow_nil w _ _ _) ad 1 k [.int .u16 v] rfl hx h1c (by unfold maxLen; omega) (by omega) (Nat.le_refl _)
    obtain ⟨A', c', rfl⟩ := owned_slice r1
    have hq := Que.owned r1
    refine ⟨A', c', w', hrun, hq.lower hbase, r2, .inr fun g hg => ?_⟩
    rcases hq.at_ with ⟨rfl, _⟩ | ⟨g', off, cells, rfl, hg', _⟩
    · cases hg
    · injection hg with hg; subst hg; exact hg'
  · by_cases hr : n + 1 ≤ c
    · have hlt : off + n < cells.size := by omega
      have hrun := run_append_room_cells (P := Try.prog) w 38 ty 28 i Try.underlying38 hi g off n c ad 1 k [.int .u16 v] (by rw [hs]; rfl) hx h1c hr (fun j hj => by
        have hj0 : j = 0 := by simpa using hj
        subst hj0
        rw [hs, Nat.mul_one, Nat.add_zero, hB.cell, Array.getElem?_eq_getElem hlt]
        rfl) (fun j hj => hB.free _)
      rw [hs, Nat.mul_one] at hrun
      have hB' : Box (w.setCells g (off + n) [.int .u16 v]) g 28 (cells.setIfInBounds (off + n) (.int .u16 v)) := hB.put (off + n) _
      refine ⟨_, _, _, hrun, ⟨by rw [List.length_append, hxl]; rfl, hr, h.max, .inr ⟨g, off, _, rfl, hb, hB', by rw [Array.size_setIfInBounds]; exact hsz, fun j hj => ?_⟩⟩, ?_, .inl rfl⟩
      · by_cases hjn : j < n
        · rw [Array.getElem?_setIfInBounds_ne (by omega), hat j hjn, List.getElem?_append_left (by omega)]
        · obtain rfl : j = n := by omega
          rw [Array.getElem?_setIfInBounds_self_of_lt hlt, List.getElem?_append_right (by omega), hxl, Nat.sub_self]
          rfl
      · have bz : Below g w (w.setCell ⟨g, off + n, none⟩ (.int .u16 v)) := (Below.refl g w).setCell (p := ⟨g, off + n, none⟩) (Nat.le_refl g) _
        refine ⟨bz.os, bz.tape, bz.output, bz.size, fun q hq hne => heap_setCell_other w ⟨g, off + n, none⟩ q _ fun e => hne ?_⟩
        rw [e]; rfl
    · obtain ⟨v', w', hrun, r1, r2⟩ := run_append_arg_grows (P := Try.prog) w 38 ty 28 i (.int .u16 0) 1 2 Try.underlying38 hi hz hs hby rfl (by decide) ⟨g, off, none⟩ n c xs (by omega) (fun j u hj => by
        have hjn : j < n := by have := (List.getElem?_eq_some_iff.1 hj).1; omega
        rw [Addr.add_lit, hB.cell, hat j hjn]
        exact hj) ad 1 k [.int .u16 v] rfl hx (by omega) (by unfold maxLen; omega) (by omega)
      obtain ⟨A', c', rfl⟩ := owned_slice r1
      have hq := Que.owned r1
      refine ⟨A', c', w', hrun, hq.lower hbase, ⟨r2.os, r2.tape, r2.output, r2.size, fun q hq _ => r2.block q hq (by simp)⟩, .inr fun g hg => ?_⟩
      rcases hq.at_ with ⟨rfl, _⟩ | ⟨g', off', cells', rfl, hg', _⟩
      · cases hg
      · injection hg with hg; subst hg; exact hg'
end Go.Proofs.Ythojjpoadabehaa
namespace Go.Proofs.Ythojjpoadabehaa
open Go.RowKit
set_option linter.unusedVariables false
set_option linter.unusedSimpArgs false
/-- What a link's calls change: its own blocks alone. -/
structure KeepL (F : Nat → Prop) (X X' : World) : Prop where
  os : X'.os = X.os
  tape : X'.tape = X.tape
  output : X'.output = X.output
  size : X.heap.size ≤ X'.heap.size
  block : ∀ k, k < X.heap.size → ¬ F k → X'.heap[k]? = X.heap[k]?
section
variable {F F' : Nat → Prop} {X X' X'' : World}
theorem KeepL.refl (F : Nat → Prop) (X : World) : KeepL F X X := ⟨rfl, rfl, rfl, Nat.le_refl _, fun _ _ _ => rfl⟩
theorem KeepL.trans (h : KeepL F X X') (k : KeepL F' X' X'') (hs : ∀ j, F' j → F j ∨ X.heap.size ≤ j) : KeepL F X X'' :=
  ⟨k.os.trans h.os, k.tape.trans h.tape, k.output.trans h.output, Nat.le_trans h.size k.size, fun j hj hn => (k.block j (Nat.lt_of_lt_of_le hj h.size) fun hf => (hs j hf).elim hn (by omega)).trans (h.block j hj hn)⟩
theorem KeepL.call (h : KeepL F X X') (hb : Below X'.heap.size X' X'') : KeepL F X X'' := h.trans (F' := F) ⟨hb.os, hb.tape, hb.output, hb.size, fun k hk _ => hb.block k hk⟩ (fun j hf => .inl hf)
theorem KeepL.put {B : Nat} (h : KeepL F X X') (hF : F B ∨ X.heap.size ≤ B) (i : Nat) (u : Value) : KeepL F X (X'.setCell ⟨B, i, none⟩ u) := by
  have hz := (Below.refl 0 X').setCell (p := ⟨B, i, none⟩) (Nat.zero_le _) u
  refine h.trans (F' := fun k => k = B) ⟨hz.os, hz.tape, hz.output, hz.size, fun k hk hne => heap_setCell_other X' ⟨B, i, none⟩ k u hne⟩ (fun j hj => ?_)
  subst hj
  exact hF
theorem KeepL.grown {row : Option Nat} (h : KeepL F X X') (hg : X'.grownBy X'' row) (hF : ∀ g, row = some g → F g ∨ X.heap.size ≤ g) : KeepL F X X'' :=
  h.trans (F' := fun k => some k = row) ⟨hg.os, hg.tape, hg.output, hg.size, fun k hk hne => hg.block k hk hne⟩ (fun j hj => hF j hj.symm)
theorem KeepL.below {b : Nat} (h : KeepL F X X') (hF : ∀ k, F k → b ≤ k) (hb : b ≤ X.heap.size) : Below b X X' := ⟨h.os, h.tape, h.output, h.size, fun k hk => h.block k (by omega) fun hf => by have := hF k hf; omega⟩
end
/-- The document's link lies there; F are its blocks. -/
structure RefL (b : Nat) (F : Nat → Prop) (B : Nat) (m : Lk.M) (X : World) : Prop where
  box : ∃ A c, Box X B 40 (m.h.lcells ⟨m.ser, m.at_, .slice A m.op.length c⟩) ∧ Que X b A m.op.length c (Lk.u16s m.op) ∧ ∀ g, A.map (·.block) = some g → F g
  own : F B
  up : ∀ k, F k → b ≤ k ∧ k < X.heap.size
theorem RefL.keep {b B : Nat} {F G : Nat → Prop} {m : Lk.M} {X X' : World} (h : RefL b F B m X) (k : KeepL G X X') (hd : ∀ j, F j → ¬ G j) : RefL b F B m X' := by
  obtain ⟨A, c, hB, hQ, hA⟩ := h.box
  refine ⟨⟨A, c, ⟨(k.block B hB.lt (hd B h.own)).trans hB.is⟩, hQ.keep fun g cs hg hb => ⟨(k.block g hb.lt (hd g (hA g hg))).trans hb.is⟩, hA⟩, h.own, fun j hj => ⟨(h.up j hj).1, Nat.lt_of_lt_of_le (h.up j hj).2 k.size⟩⟩
/-- What is left of a call of a link. -/
def SaysL (b : Nat) (F : Nat → Prop) (B : Nat) (m' : Lk.M) (r : Value) (X : World) (e : Ending) (X' : World) : Prop := e = .returned r ∧ ∃ F', (∀ k, F' k → F k ∨ X.heap.size ≤ k) ∧ RefL b F' B m' X' ∧ KeepL F X X'
theorem l_built (now : Int) : Try.prog.built 40 [(2, .int .i64 now)] = some (Sr.lc ⟨0, now, .slice none 0 0⟩ false 0 (fun _ => false)) := by kernel_rfl
theorem lc_none (x : Sr.Lx) : Sr.none.lcells x = Sr.lc x false 0 (fun _ => false) := by
  unfold Sr.H.lcells
  exact Sr.lc_congr fun i _ => by
    unfold Sr.came Sr.none
    split
    · rfl
    · exact Nat.zero_testBit _
set_option maxHeartbeats 1000000 in
theorem refnewl_any (b : Nat) (now : Int) (X : World) (hb : b ≤ X.heap.size) :
    Calls Try.prog 8 #[.int .i64 now] X fun e X' => ∃ B, e = .returned (.pointer (some ⟨B, 0, none⟩)) ∧ RefL b (fun k => k = B) B (Lk.new now) X' ∧ Below X.heap.size X X' ∧ X.heap.size ≤ B := by
  have hbu := l_built now
  have R := Lib.hid (show RefL b (fun k => k = X.heap.size) X.heap.size (Lk.new now) (X.alloc (.cells (Sr.lc ⟨0, now, .slice none 0 0⟩ false 0 (fun _ => false)) 40)) from
    ⟨⟨none, 0, by rw [← lc_none]; exact Box.made X _ _, Que.nil _ _, fun g hg => by cases hg⟩, rfl, fun k hk => by subst hk; simp; exact hb⟩)
  have K := Lib.hid (one_below X (.cells (Sr.lc ⟨0, now, .slice none 0 0⟩ false 0 (fun _ => false)) 40))
  go_enter Try.func8, Try.ntmps8
  go_wp2_with (refine wpList_build_is rfl (t := 40) (vs := [(2, .int .i64 now)]) rfl rfl hbu ?_)
  go_ret
  exact ⟨_, rfl, R.out, K.out, Nat.le_refl _⟩
set_option maxHeartbeats 1000000 in
theorem refquiet_any (b : Nat) (F : Nat → Prop) (B : Nat) (m : Lk.M) (ho : m.Ok) (now : Int) (hn : -9223372036854775808 ≤ now ∧ now ≤ 9223372036854775807) (X : World) (h : RefL b F B m X) :
    Calls Try.prog 15 #[.pointer (some ⟨B, 0, none⟩), .int .i64 now] X fun e X' => e = .returned (.int .i64 (Lk.quiet m now)) ∧ X = X' := by
  obtain ⟨A, c, hB, hQ, hA⟩ := h.box
  have k36 : X.cell? ⟨B, 36, none⟩ = some (.int .i64 m.at_) := hB.cell 36
  unfold Lk.quiet
  generalize m.at_ = t at *
  clear hB hQ hA h ho
  by_cases hle : now ≤ t
  · rw [if_pos hle]
    go_enter Try.func15, Try.ntmps15
    go_wp2
    go_ret
    exact ⟨rfl, rfl⟩
  · rw [if_neg hle]
    go_enter Try.func15, Try.ntmps15
    go_wp2
    go_ret
    exact ⟨rfl, rfl⟩
end Go.Proofs.Ythojjpoadabehaa
namespace Go.Proofs.Ythojjpoadabehaa
open Go.RowKit
set_option linter.unusedVariables false
set_option linter.unusedSimpArgs false
/-- How a program's link lies: above b, in the blocks F, at B, being m. -/
abbrev LkP := Nat → (Nat → Prop) → Nat → Lk.M → World → Prop
/-- What a call of a link leaves. -/
def SaysP (LP : LkP) (b : Nat) (F : Nat → Prop) (B : Nat) (m' : Lk.M) (r : Value) (X : World) (e : Ending) (X' : World) : Prop := e = .returned r ∧ ∃ F', (∀ k, F' k → F k ∨ X.heap.size ≤ k) ∧ LP b F' B m' X' ∧ KeepL F X X'
structure LinkC (LP : LkP) : Prop where
  up : ∀ {b F B m X}, LP b F B m X → ∀ k, F k → b ≤ k ∧ k < X.heap.size
  keep : ∀ {b F B m X G X'}, LP b F B m X → KeepL G X X' → (∀ j, F j → ¬ G j) → LP b F B m X'
  new : ∀ (b : Nat) (now : Int) (X : World), b ≤ X.heap.size → -9223372036854775808 ≤ now ∧ now ≤ 9223372036854775807 → Calls Try.prog 7 #[.int .i64 now] X fun e X' => ∃ B F, e = .returned (.pointer (some ⟨B, 0, none⟩)) ∧ LP b F B (Lk.new now) X' ∧ Below X.heap.size X X' ∧ ∀ k, F k → X.heap.size ≤ k
  stamp : ∀ (b : Nat) (F : Nat → Prop) (B : Nat) (m : Lk.M), m.Ok → ∀ X, LP b F B m X → b ≤ X.heap.size → Calls Try.prog 10 #[.pointer (some ⟨B, 0, none⟩)] X (SaysP LP b F B (Lk.stamp m) (.tuple #[.int .u16 (Lk.next m), .int .u16 m.h.last, .int .u32 (m.h.seen : Nat)]) X)
  hear : ∀ (b : Nat) (F : Nat → Prop) (B : Nat) (m : Lk.M), m.Ok → ∀ (now s ack : Int) (seen : Nat), -9223372036854775808 ≤ now ∧ now ≤ 9223372036854775807 → 0 ≤ s ∧ s ≤ 65535 → 0 ≤ ack ∧ ack ≤ 65535 → seen < 4294967296 → ∀ X, LP b F B m X → b ≤ X.heap.size →
    Calls Try.prog 12 #[.pointer (some ⟨B, 0, none⟩), .int .i64 now, .int .u16 s, .int .u16 ack, .int .u32 (seen : Nat)] X (SaysP LP b F B (Lk.hear m now s ack seen) (.bool (Lk.fresh m s)) X)
  quiet : ∀ (b : Nat) (F : Nat → Prop) (B : Nat) (m : Lk.M), m.Ok → ∀ (now : Int), -9223372036854775808 ≤ now ∧ now ≤ 9223372036854775807 → now - m.at_ ≤ 9223372036854775807 → ∀ X, LP b F B m X → Calls Try.prog 14 #[.pointer (some ⟨B, 0, none⟩), .int .i64 now] X fun e X' => e = .returned (.int .i64 (max 0 (now - m.at_))) ∧ Below X.heap.size X X'
  open_ : ∀ (b : Nat) (F : Nat → Prop) (B : Nat) (m : Lk.M), m.Ok → ∀ X, LP b F B m X → Calls Try.prog 17 #[.pointer (some ⟨B, 0, none⟩)] X fun e X' => ∃ A c, e = .returned (.slice A m.op.length c) ∧ Lies X' X'.heap.size 1 A m.op.length (Lk.u16s m.op) ∧ Below X.heap.size X X'
  stamp0 : ∀ X, Calls Try.prog 10 #[.pointer none] X fun e X' => e = .returned (.tuple #[.int .u16 0, .int .u16 0, .int .u32 0]) ∧ Below X.heap.size X X'
  hear0 : ∀ (now s ack seen : Int) X, Calls Try.prog 12 #[.pointer none, .int .i64 now, .int .u16 s, .int .u16 ack, .int .u32 seen] X fun e X' => e = .returned (.bool false) ∧ Below X.heap.size X X'
  quiet0 : ∀ (now : Int) X, Calls Try.prog 14 #[.pointer none, .int .i64 now] X fun e X' => e = .returned (.int .i64 0) ∧ Below X.heap.size X X'
  open0 : ∀ X, Calls Try.prog 17 #[.pointer none] X fun e X' => ∃ A c, e = .returned (.slice A 0 c) ∧ Below X.heap.size X X'
/-- One link, and the world behind it. -/
def P13 (LP : LkP) (w : World) (B : Nat) (m : Lk.M) (X : World) : Prop := ∃ F, LP w.heap.size F B m X ∧ Below w.heap.size w X
section
variable {LP : LkP} (C : LinkC LP) {w : World} {B : Nat} {m : Lk.M} {X X' : World}
include C
theorem P13.below (h : P13 LP w B m X) (hb : Below X.heap.size X X') : P13 LP w B m X' := by
  obtain ⟨F, h1, h2⟩ := h
  exact ⟨F, C.keep h1 (G := fun _ => False) ⟨hb.os, hb.tape, hb.output, hb.size, fun k hk _ => hb.block k hk⟩ (fun _ _ h => h), h2.trans (hb.mono h2.size)⟩
theorem P13.of_says {F : Nat → Prop} {r : Value} {e : Ending} {m' : Lk.M} (h1 : LP w.heap.size F B m X) (h2 : Below w.heap.size w X) (h : SaysP LP w.heap.size F B m' r X e X') : e = .returned r ∧ P13 LP w B m' X' := by
  obtain ⟨rfl, F', hF, hL, hK⟩ := h
  exact ⟨rfl, F', hL, h2.trans (hK.below (fun k hk => (C.up h1 k hk).1) h2.size)⟩
theorem P13.new (now : Int) (hn : -9223372036854775808 ≤ now ∧ now ≤ 9223372036854775807) (hw : Below w.heap.size w X) :
    Calls Try.prog 7 #[.int .i64 now] X fun e X' => ∃ B, e = .returned (.pointer (some ⟨B, 0, none⟩)) ∧ P13 LP w B (Lk.new now) X' := by
  refine (C.new w.heap.size now X hw.size hn).mono fun e X' => ?_
  rintro ⟨B, F, rfl, h1, h2, _⟩
  exact ⟨B, rfl, F, h1, hw.trans (h2.mono hw.size)⟩
theorem P13.stamp (ho : m.Ok) (h : P13 LP w B m X) :
    Calls Try.prog 10 #[.pointer (some ⟨B, 0, none⟩)] X fun e X' => e = .returned (.tuple #[.int .u16 (Lk.next m), .int .u16 m.h.last, .int .u32 (m.h.seen : Nat)]) ∧ P13 LP w B (Lk.stamp m) X' := by
  obtain ⟨F, h1, h2⟩ := h
  exact (C.stamp _ F B m ho X h1 h2.size).mono fun e X' h => P13.of_says C h1 h2 h
theorem P13.hear (ho : m.Ok) (now s ack : Int) (seen : Nat) (hn : -9223372036854775808 ≤ now ∧ now ≤ 9223372036854775807) (hs : 0 ≤ s ∧ s ≤ 65535) (ha : 0 ≤ ack ∧ ack ≤ 65535) (hse : seen < 4294967296) (h : P13 LP w B m X) :
    Calls Try.prog 12 #[.pointer (some ⟨B, 0, none⟩), .int .i64 now, .int .u16 s, .int .u16 ack, .int .u32 (seen : Nat)] X fun e X' => e = .returned (.bool (Lk.fresh m s)) ∧ P13 LP w B (Lk.hear m now s ack seen) X' := by
  obtain ⟨F, h1, h2⟩ := h
  exact (C.hear _ F B m ho now s ack seen hn hs ha hse X h1 h2.size).mono fun e X' h => P13.of_says C h1 h2 h
theorem P13.quiet (ho : m.Ok) (now : Int) (hn : -9223372036854775808 ≤ now ∧ now ≤ 9223372036854775807) (hw : now - m.at_ ≤ 9223372036854775807) (h : P13 LP w B m X) :
    Calls Try.prog 14 #[.pointer (some ⟨B, 0, none⟩), .int .i64 now] X fun e X' => e = .returned (.int .i64 (max 0 (now - m.at_))) ∧ P13 LP w B m X' := by
  obtain ⟨F, h1, h2⟩ := h
  refine (C.quiet _ F B m ho now hn hw X h1).mono fun e X' h => ⟨h.1, P13.below C ⟨F, h1, h2⟩ h.2⟩
theorem P13.open_ (ho : m.Ok) (h : P13 LP w B m X) :
    Calls Try.prog 17 #[.pointer (some ⟨B, 0, none⟩)] X fun e X' => ∃ A c, e = .returned (.slice A m.op.length c) ∧ Lies X' X'.heap.size 1 A m.op.length (Lk.u16s m.op) ∧ P13 LP w B m X' := by
  obtain ⟨F, h1, h2⟩ := h
  refine (C.open_ _ F B m ho X h1).mono fun e X' h => ?_
  obtain ⟨A, c, he, hl, hb⟩ := h
  exact ⟨A, c, he, hl, P13.below C ⟨F, h1, h2⟩ hb⟩
end
end Go.Proofs.Ythojjpoadabehaa
namespace Lk
def t0 : M := new 5
def t1 : M := stamp t0
def t2 : M := stamp t1
def t3 : M := hear t2 9 1 1 0
def t4 : M := hear t3 9 1 1 0
theorem t0_ok : t0.Ok := new_ok (by decide)
theorem t1_ok : t1.Ok := stamp_ok t0_ok
theorem t2_ok : t2.Ok := stamp_ok t1_ok
theorem t3_ok : t3.Ok := hear_ok t2_ok (by decide) (by decide) 1 0
theorem t4_ok : t4.Ok := hear_ok t3_ok (by decide) (by decide) 1 0
end Lk
namespace Go.Proofs.Ythojjpoadabehaa
open Go.RowKit
set_option linter.unusedVariables false
set_option linter.unusedSimpArgs false
theorem lk_at0 {w : World} {B n : Nat} {ad : Addr} {xs : List Value} {u : Value} (h : Lies w B 1 (some ad) n xs) (hn : n ≠ 0) (hu : xs[0]? = some u) : w.cell? ad = some u := by
  have := h.cell ad rfl hn 0 u hu
  have e0 : ad.add 0 = ad := by simp [Addr.add]
  rwa [e0] at this
theorem lk_t : Lk.next Lk.t0 = 1 ∧ Lk.next Lk.t1 = 2 ∧ Lk.fresh Lk.t2 1 = true ∧ Lk.fresh Lk.t3 1 = false ∧ Lk.t4.op = [2] ∧ Lk.t4.at_ = 9 := by decide +kernel
set_option maxRecDepth 100000 in
set_option maxHeartbeats 4000000 in
theorem told13_law {LP : LkP} (C : LinkC LP) (w : World) : Calls Try.prog 9 #[] w fun e w' => e = .returned (.bool true) ∧ Below w.heap.size w w' := by
  obtain ⟨q1, q2, q3, q4, q5, q6⟩ := lk_t
  have c0 := P13.new C (LP := LP) (X := w) (w := w) 5 (by decide) (Below.refl _ _)
  have c1 := fun B X (h : P13 LP w B Lk.t0 X) => Lib.hid (P13.stamp C Lk.t0_ok h)
  have c2 := fun B X (h : P13 LP w B Lk.t1 X) => Lib.hid (P13.stamp C Lk.t1_ok h)
  have c3 := fun B X (h : P13 LP w B Lk.t2 X) => Lib.hid (P13.hear C Lk.t2_ok 9 1 1 0 (by decide) (by decide) (by decide) (by decide) h)
  have c4 := fun B X (h : P13 LP w B Lk.t3 X) => Lib.hid (P13.hear C Lk.t3_ok 9 1 1 0 (by decide) (by decide) (by decide) (by decide) h)
  have c5 := fun B X (h : P13 LP w B Lk.t4 X) => Lib.hid (P13.open_ C Lk.t4_ok h)
  have c6 := fun B X (h : P13 LP w B Lk.t4 X) => Lib.hid (P13.quiet C Lk.t4_ok 12 (by decide) (by rw [q6]; decide) h)
  have c7 := fun B X (h : P13 LP w B Lk.t4 X) => Lib.hid (P13.quiet C Lk.t4_ok 2 (by decide) (by rw [q6]; decide) h)
  rw [q1] at c1
  rw [q2] at c2
  rw [q3] at c3
  rw [q4] at c4
  rw [q5] at c5
  rw [q6] at c6 c7
  rw [show max 0 ((12 : Int) - 9) = 3 from by decide] at c6
  rw [show max 0 ((2 : Int) - 9) = 0 from by decide] at c7
  rw [show [(2 : Int)].length = 1 from rfl] at c5
  rw [show ((0 : Nat) : Int) = 0 from rfl] at c3 c4
  have d1 := fun X => Lib.hid (C.stamp0 X)
  have d2 := fun X => Lib.hid (C.hear0 1 1 1 1 X)
  have d3 := fun X => Lib.hid (C.quiet0 9 X)
  have d4 := fun X => Lib.hid (C.open0 X)
  have C0 := Lib.hid c0
  clear c0
  go_enter Try.func9, Try.ntmps9
  go_wp2_with (first
    | (go_at_call 7; ((with_reducible refine C0.out.mono ?_); rintro e w0 ⟨B, rfl, h0⟩; have H0 := Lib.hid h0; clear h0))
    | (go_at_call 10; first
      | ((with_reducible refine (c1 _ _ H0.out).out.mono ?_); rintro e w1 ⟨rfl, h1⟩; have H1 := Lib.hid (show P13 LP w B Lk.t1 w1 from h1); clear h1 H0)
      | ((with_reducible refine (c2 _ _ H1.out).out.mono ?_); rintro e w2 ⟨rfl, h2⟩; have H2 := Lib.hid (show P13 LP w B Lk.t2 w2 from h2); clear h2 H1)
      | ((with_reducible refine (d1 _).out.mono ?_); rintro e w6 ⟨rfl, h6⟩; have H6 := Lib.hid (P13.below C H5.out h6); have k6 : w6.cell? ad = some (.int .u16 2) := lk_at0 (L5.out.below h6) (by decide) rfl; clear h6 H5 L5))
    | (go_at_call 12; first
      | ((with_reducible refine (c3 _ _ H2.out).out.mono ?_); rintro e w3 ⟨rfl, h3⟩; have H3 := Lib.hid (show P13 LP w B Lk.t3 w3 from h3); clear h3 H2)
      | ((with_reducible refine (c4 _ _ H3.out).out.mono ?_); rintro e w4 ⟨rfl, h4⟩; have H4 := Lib.hid (show P13 LP w B Lk.t4 w4 from h4); clear h4 H3))
    | (go_at_call 17; first
      | ((with_reducible refine (c5 _ _ H4.out).out.mono ?_); rintro e w5 ⟨A, cc, rfl, l5, h5⟩; obtain ⟨ad, rfl, had⟩ := l5.start (by decide); have H5 := Lib.hid h5; have L5 := Lib.hid l5; clear h5 l5 H4 had))
    | (go_at_call 14; first
      | ((with_reducible refine (c6 _ _ H6.out).out.mono ?_); rintro e w7 ⟨rfl, h7⟩; have H7 := Lib.hid h7; clear h7 H6)
      | ((with_reducible refine (c7 _ _ H7.out).out.mono ?_); rintro e w8 ⟨rfl, h8⟩; have H8 := Lib.hid h8; clear h8 H7))
    | (go_at_call 17; ((with_reducible refine (d4 _).out.mono ?_); rintro e w9 ⟨A9, c9, rfl, h9⟩; have H9 := Lib.hid (P13.below C H8.out h9); clear h9 H8))
    | (go_at_call 12; ((with_reducible refine (d2 _).out.mono ?_); rintro e wa ⟨rfl, ha⟩; have Ha := Lib.hid (P13.below C H9.out ha); clear ha H9))
    | (go_at_call 14; ((with_reducible refine (d3 _).out.mono ?_); rintro e wb ⟨rfl, hb⟩; have Hb := Lib.hid (P13.below C Ha.out hb); clear hb Ha)))
  go_ret
  obtain ⟨F, _, hf⟩ := Hb.out
  exact ⟨rfl, hf⟩
end Go.Proofs.Ythojjpoadabehaa
namespace Bd
open Go
theorem i8 {a : Int} (h : (Lit.int .i8 a).wf = true) : -128 ≤ a ∧ a ≤ 127 := by
  simpa [Lit.wf, IntKind.min, IntKind.max, IntKind.signed, IntKind.bits] using h
theorem i16 {a : Int} (h : (Lit.int .i16 a).wf = true) : -32768 ≤ a ∧ a ≤ 32767 := by
  simpa [Lit.wf, IntKind.min, IntKind.max, IntKind.signed, IntKind.bits] using h
theorem i32 {a : Int} (h : (Lit.int .i32 a).wf = true) : -2147483648 ≤ a ∧ a ≤ 2147483647 := by
  simpa [Lit.wf, IntKind.min, IntKind.max, IntKind.signed, IntKind.bits] using h
theorem i64 {a : Int} (h : (Lit.int .i64 a).wf = true) : -9223372036854775808 ≤ a ∧ a ≤ 9223372036854775807 := by
  simpa [Lit.wf, IntKind.min, IntKind.max, IntKind.signed, IntKind.bits] using h
theorem u8 {a : Int} (h : (Lit.int .u8 a).wf = true) : 0 ≤ a ∧ a ≤ 255 := by
  simpa [Lit.wf, IntKind.min, IntKind.max, IntKind.signed, IntKind.bits] using h
theorem u16 {a : Int} (h : (Lit.int .u16 a).wf = true) : 0 ≤ a ∧ a ≤ 65535 := by
  simpa [Lit.wf, IntKind.min, IntKind.max, IntKind.signed, IntKind.bits] using h
theorem u32 {a : Int} (h : (Lit.int .u32 a).wf = true) : 0 ≤ a ∧ a ≤ 4294967295 := by
  simpa [Lit.wf, IntKind.min, IntKind.max, IntKind.signed, IntKind.bits] using h
theorem u64 {a : Int} (h : (Lit.int .u64 a).wf = true) : 0 ≤ a ∧ a ≤ 18446744073709551615 := by
  simpa [Lit.wf, IntKind.min, IntKind.max, IntKind.signed, IntKind.bits] using h
end Bd
namespace Go.Proofs.Ythojjpoadabehaa
open Go.ChangeShapes Go.WideShapes Go.ChangeAt Go.RowKit Go.Joins Go.ChangeMaps Go.Deep
set_option linter.unusedVariables false

theorem cells?_cell' {w : World} {base : Nat} {a : Addr} {n : Nat} {cs : List Value} (h : w.cells? base a n = some cs) : cs.length = n ∧ ∀ j, j < n → w.cell? (a.add j) = cs[j]? := by
  unfold World.cells? at h
  split at h
  · have hl := mapM_some_length h
    refine ⟨by simpa using hl, fun j hj => ?_⟩
    have := mapM_some_get h j j (by simp [hj])
    rw [this]
  · cases h
theorem cells_one_of' {v x : Value} (h : ∀ cs, v ≠ .agg cs) (hv : v.cells.toList = [x]) : v = x := by
  cases v <;> first | exact absurd rfl (h _) | simpa [Value.cells] using hv
section
variable {α : Type} {cells : α → List Value} {c : Nat}
theorem flat_len (hc : ∀ a, (cells a).length = c) (l : List α) : (l.flatMap cells).length = l.length * c := by
  induction l with
  | nil => simp
  | cons s l ih => rw [List.flatMap_cons, List.length_append, ih, List.length_cons, hc, Nat.succ_mul]; omega
theorem flat_at (hc : ∀ a, (cells a).length = c) (l : List α) (k j : Nat) (hk : k < l.length) (hj : j < c) : (l.flatMap cells)[k * c + j]? = (cells l[k])[j]? := by
  induction l generalizing k with
  | nil => simp at hk
  | cons s l ih =>
    rw [List.flatMap_cons]
    match k with
    | 0 => rw [List.getElem?_append_left (by rw [hc]; omega)]; simp
    | k + 1 =>
      rw [List.getElem?_append_right (by rw [hc, Nat.succ_mul]; omega)]
      have := ih k (by simpa using hk)
      rw [show (k + 1) * c + j - (cells s).length = k * c + j from by rw [hc, Nat.succ_mul]; omega, this]
      simp
end
section
variable {H : Type} {enc : TypeId × Value → H} {w : World} {base : Nat} {spare : Nat → Bool} {held : Bool}
set_option maxRecDepth 100000 in
theorem open_slice_c {α : Type} {t e : TypeId} (cells : α → List Value) (c : Nat) (ty : α → Prop) (z : α) (hu : Try.prog.underlying t = some (.slice e)) (hce : Try.prog.cellsOf e = c) (hc0 : 0 < c) (hlen : ∀ a, (cells a).length = c)
    (hel : ∀ {base : Nat} {spare : Nat → Bool} {held : Bool} {fuel : Nat} {l : List Value} {y : DataW H × List MemPlace}, l.length = c → DataW.trod enc Try.prog w base spare held fuel e l = some y → ∃ q : α, l = cells q ∧ ty q)
    {v : Value} {d : DataW H} {p : List MemPlace} (hag : ∀ cs, v ≠ .agg cs) (h : DataW.Trod enc Try.prog w base spare held t v d p) : ∃ (A : Option Addr) (cc : Nat) (l : List α), v = .slice A l.length cc ∧ (∀ x ∈ l, ty x) ∧ l.length ≤ maxLen ∧ Lies w w.heap.size c A l.length (l.flatMap cells) ∧ l.length ≤ cc := by
  obtain ⟨fuel, hf⟩ := h
  rcases DataW.trod_slice hu hf with ⟨hv, _⟩ | ⟨a, len, cap, elems, rest, n, rfl, hv, _, _, hlc, hcm, hlen', hel', _, _⟩
  · have ev : v = .slice none 0 0 := cells_one_of' hag hv
    exact ⟨none, 0, [], ev, fun x hx => (by cases hx), Nat.zero_le _, Lies.empty, Nat.le_refl _⟩
  · have ev : v = .slice (some a) len cap := cells_one_of' hag hv
    simp only [hce] at hel'
    have key : ∀ i, i < len → ∃ q : α, w.cells? base (a.add (i * c)) c = some (cells q) ∧ ty q := by
      intro i hi
      obtain ⟨y, hy⟩ : ∃ y, elems[i]? = some y := ⟨elems[i]'(by omega), List.getElem?_eq_getElem (by omega)⟩
      have h := hel' i hi
      rw [hy, Option.bind_eq_some_iff] at h
      obtain ⟨cs, hcs, ht⟩ := h
      have hl := (cells?_cell' hcs).1
      obtain ⟨q, h1, h2⟩ := hel hl ht
      exact ⟨q, by rw [hcs, h1], h2⟩
    have hch : ∃ ps : Nat → α, ∀ i, i < len → (w.cells? base (a.add (i * c)) c = some (cells (ps i)) ∧ ty (ps i)) :=
      ⟨fun i => if h : i < len then (key i h).choose else z, fun i hi => by dsimp only; rw [dif_pos hi]; exact (key i hi).choose_spec⟩
    obtain ⟨ps, hps⟩ := hch
    have ll : ((List.range len).map ps).length = len := by simp
    have lf : (((List.range len).map ps).flatMap cells).length = len * c := by rw [flat_len hlen, ll]
    refine ⟨some a, cap, (List.range len).map ps, by rw [ll]; exact ev, fun x hx => ?_, by rw [ll]; omega, ⟨?_, fun h0 => ?_, fun ad e h0 j u hu => ?_⟩, by rw [ll]; exact hlc⟩
    · obtain ⟨i, hi, rfl⟩ := List.mem_map.1 hx
      exact (hps i (by simpa using hi)).2
    · rw [lf, ll]
    · rw [ll] at h0
      exact ⟨a, rfl, by have := World.cells?_block (hps 0 (by omega)).1 hc0; simpa [Addr.add] using this⟩
    · injection e with e
      subst e
      have hjl : j < len * c := by have := (List.getElem?_eq_some_iff.1 hu).1; rwa [lf] at this
      have hjc : j / c < len := (Nat.div_lt_iff_lt_mul hc0).2 hjl
      have hjm : j % c < c := Nat.mod_lt _ hc0
      have hjj : j / c * c + j % c = j := by rw [Nat.mul_comm]; exact Nat.div_add_mod j c
      have hq := (cells?_cell' (hps (j / c) hjc).1).2 (j % c) hjm
      rw [add_twice, hjj] at hq
      rw [hq, ← hu]
      have := flat_at hlen ((List.range len).map ps) (j / c) (j % c) (by rw [ll]; exact hjc) hjm
      rw [hjj] at this
      rw [this]
      simp
/-- A list of whole numbers. -/
theorem open_slice {α : Type} {t e : TypeId} (cells : α → List Value) (c : Nat) (ty : α → Prop) (z : α) (hu : Try.prog.underlying t = some (.slice e)) (hce : Try.prog.cellsOf e = c) (hc0 : 0 < c) (hlen : ∀ a, (cells a).length = c)
    (hel : ∀ {base : Nat} {spare : Nat → Bool} {held : Bool} {fuel : Nat} {l : List Value} {y : DataW H × List MemPlace}, l.length = c → DataW.trod enc Try.prog w base spare held fuel e l = some y → ∃ q : α, l = cells q ∧ ty q)
    {v : Value} {d : DataW H} {p : List MemPlace} (hag : ∀ cs, v ≠ .agg cs) (h : DataW.Trod enc Try.prog w base spare held t v d p) : ∃ (A : Option Addr) (cc : Nat) (l : List α), v = .slice A l.length cc ∧ (∀ x ∈ l, ty x) ∧ l.length ≤ maxLen ∧ Lies w w.heap.size c A l.length (l.flatMap cells) := by
  obtain ⟨A, cc, l, h1, h2, h3, h4, _⟩ := open_slice_c cells c ty z hu hce hc0 hlen hel hag h
  exact ⟨A, cc, l, h1, h2, h3, h4⟩

theorem open_list {t e : TypeId} {k : IntKind} (hu : Try.prog.underlying t = some (.slice e)) (he : Try.prog.underlying e = some (.int k)) (hce : Try.prog.cellsOf e = 1) {v : Value} {d : DataW H} {p : List MemPlace} (hag : ∀ cs, v ≠ .agg cs) (h : DataW.Trod enc Try.prog w base spare held t v d p) :
    ∃ (A : Option Addr) (cc : Nat) (l : List Int), v = .slice A l.length cc ∧ (∀ x ∈ l, (Lit.int k x).wf = true) ∧ l.length ≤ maxLen ∧ Lies w w.heap.size 1 A l.length (l.flatMap fun x => [.int k x]) :=
  open_slice (fun x : Int => [Value.int k x]) 1 (fun x => (Lit.int k x).wf = true) 0 hu hce (by decide) (fun _ => rfl) (fun hl ht => by
    obtain ⟨x, e, _, w⟩ := DataW.trod_int he ht
    exact ⟨x, e, w⟩) hag h
end
end Go.Proofs.Ythojjpoadabehaa
namespace Go.Proofs.Ythojjpoadabehaa
open Go.RowKit
set_option linter.unusedVariables false
set_option linter.unusedSimpArgs false
theorem lk_ints {w : World} {B n : Nat} {ad : Addr} {l : List Int} {k : IntKind} (h : Lies w B 1 (some ad) n (l.flatMap fun x => [.int k x])) (hn : n = l.length) (f : Nat) (hf : f < l.length) : w.cell? (ad.add f) = some (.int k (l.getD f 0)) := by
  refine h.cell ad rfl (by omega) f _ ?_
  have := flat_at (cells := fun x : Int => [Value.int k x]) (c := 1) (fun _ => rfl) l f 0 hf (by omega)
  rw [Nat.mul_one, Nat.add_zero] at this
  rw [this]
  simp [hf]
theorem modN (x m : Int) (hm : 0 < m ∧ m ≤ 1000000) : ∃ k : Nat, wrap64 ((IntKind.u64.wrap x).tmod m) = (k : Int) ∧ (k : Int) < m := by
  have u0 : 0 ≤ IntKind.u64.wrap x := by rw [IntKind.wrap_u64]; omega
  have h1 := Int.emod_nonneg (IntKind.u64.wrap x) (show m ≠ 0 by omega)
  have h2 := Int.emod_lt_of_pos (IntKind.u64.wrap x) hm.1
  refine ⟨(IntKind.u64.wrap x % m).toNat, ?_, by omega⟩
  rw [Int.tmod_eq_emod_of_nonneg u0]
  unfold wrap64
  omega
set_option maxRecDepth 100000 in
set_option maxHeartbeats 4000000 in
theorem quiet13_law {LP : LkP} (C : LinkC LP) (A : Option Addr) (c n : Nat) (l : List Int) (now : Int) (w : World) (hn : n = l.length) (hnm : n ≤ maxLen) (hL : Lies w w.heap.size 1 A n (l.flatMap fun x => [.int .i64 x])) :
    Calls Try.prog 6 #[.slice A n c, .int .i64 now] w fun e w' => e = .returned (.bool true) ∧ Below w.heap.size w w' := by
  have c0 := Lib.hid (P13.new C (LP := LP) (X := w) (w := w) 0 (by decide) (Below.refl _ _))
  have ct := fun X => Lib.hid (told13_law C X)
  have HL := Lib.hid hL
  have NL := Lib.hid hn
  clear hL hn
  unfold maxLen at hnm
  obtain ⟨N, hN, hN2⟩ := modN now 20000 (by decide)
  go_enter Try.func6, Try.ntmps6
  go_wp2_with ((go_at_call 7; ((with_reducible refine c0.out.mono ?_); rintro e w0 ⟨B, rfl, h0⟩; have H0 := Lib.hid h0; clear h0)))
  go_loopw [6, 7] (fun t i wr => ∃ (k T : Nat) (M : Lk.M), k ≤ n ∧ k ≤ 30 ∧ i = .int .i64 k ∧ t = .int .i64 T ∧ T < 10000 ∧ M.Ok ∧ M.at_ = T ∧ P13 LP w B M wr) (fun _ i _ => n - (intOf i).toNat)
  case atStart => exact ⟨0, 0, Lk.new 0, Nat.zero_le _, Nat.zero_le _, rfl, rfl, by decide, Lk.new_ok (by decide), rfl, H0.out⟩
  case round =>
    obtain ⟨k, T, M, hk, hk30, rfl, rfl, hT, hM, hat, hP⟩ := hrel
    have HP := Lib.hid hP
    have HM := Lib.hid hM
    have HA := Lib.hid hat
    clear hP hM hat H0
    by_cases hlt : k < n ∧ k < 30
    · obtain ⟨hl1, hl2⟩ := hlt
      have hkn : (k : Int) < n := by omega
      have hk3 : (k : Int) < 30 := by omega
      obtain ⟨F0, _, hBw⟩ := HP.out
      obtain ⟨ad, rfl, hadl⟩ := HL.out.start (by omega)
      have nb := NL.out
      have q0 := lk_ints (HL.out.below hBw) nb k (by omega)
      clear nb hBw
      generalize l.getD k 0 = z at q0
      obtain ⟨t, ht, ht2⟩ := modN z 10000 (by decide)
      have wk : IntKind.u16.wrap (k : Int) = k := by rw [IntKind.wrap_u16]; omega
      have ch := Lib.hid (P13.hear C HM.out t k 0 0 (by omega) (by omega) (by decide) (by decide) HP.out)
      rw [show ((0 : Nat) : Int) = 0 from rfl] at ch
      have HO2 := Lib.hid (Lk.hear_ok HM.out (now := t) (s := k) (by omega) (by omega) 0 0)
      have HA2 := Lib.hid (show (Lk.hear M t k 0 0).at_ = max (T : Int) t by rw [← HA.out]; rfl)
      generalize Lk.hear M t k 0 0 = M2 at *
      generalize Lk.fresh M k = fr at *
      obtain ⟨T2, hT2, hT3, hM2⟩ : ∃ T2 : Nat, (if T < t then (t : Int) else (T : Int)) = T2 ∧ T2 < 10000 ∧ M2.at_ = T2 := by
        refine ⟨max T t, ?_, by omega, by rw [HA2.out]; omega⟩
        split <;> omega
      have HX2 := Lib.hid hT2
      have c1 := fun X hX => Lib.hid (P13.quiet (w := w) (B := B) C HO2.out T2 (by omega) (by omega) (X := X) hX)
      have c2 := fun X hX => Lib.hid (P13.quiet (w := w) (B := B) C HO2.out (T2 + 7) (by omega) (by omega) (X := X) hX)
      rw [show max 0 ((T2 : Int) - M2.at_) = 0 by rw [hM2]; omega] at c1
      rw [show max 0 ((T2 : Int) + 7 - M2.at_) = 7 by rw [hM2]; omega] at c2
      have HM2 := Lib.hid hM2
      clear hT2 hM2 HA2 HA
      go_upto_region 11 with ((go_at_call 12; ((with_reducible refine ch.out.mono ?_); rintro e w1 ⟨rfl, h1⟩; have H1 := Lib.hid h1; clear h1)))
      rw [HX2.out]
      clear q0 ch ht wk
      go_wp2_with ((go_at_call 14; first | ((with_reducible refine (c1 _ H1.out).out.mono ?_); rintro e w2 ⟨rfl, h2⟩; have H2 := Lib.hid h2; clear h2 H1) | ((with_reducible refine (c2 _ H2.out).out.mono ?_); rintro e w3 ⟨rfl, h3⟩; have H3 := Lib.hid h3; clear h3 H2)))
      go_roundw
      case rel => exact ⟨k + 1, T2, M2, by omega, by omega, by go_num, rfl, by omega, HO2.out, HM2.out, H3.out⟩
      case measure => simp [intOf]; omega
    · have hge : (k : Int) = n ∨ (k : Int) = 30 := by omega
      have HN := Lib.hid hN
      have c1 := fun X hX => Lib.hid (P13.quiet (w := w) (B := B) C HM.out N (by omega) (by have := HA.out; omega) (X := X) hX)
      rw [HA.out] at c1
      by_cases hkn : (k : Int) < n
      · have hk3 : ¬ (k : Int) < 30 := by omega
        clear hlt hge
        go_wp2_with (first | (go_at_call 9; ((with_reducible refine (ct _).out.mono ?_); rintro e w2 ⟨rfl, h2⟩; have H2 := Lib.hid (P13.below C HP.out h2); clear h2)) | (go_at_call 14; ((with_reducible refine (c1 _ H2.out).out.mono ?_); rintro e w3 ⟨rfl, h3⟩; have H3 := Lib.hid h3; clear h3 H2)))
        all_goals (
          obtain ⟨F3, _, hf3⟩ := H3.out
          go_ret
          first
            | exact ⟨by rw [show max 0 ((N : Int) - T) = (N : Int) - T by omega, beq_self_eq_true]; rfl, hf3⟩
            | exact ⟨by rw [show max 0 ((N : Int) - T) = 0 by omega]; rfl, hf3⟩)
      · clear hlt hge
        go_wp2_with (first | (go_at_call 9; ((with_reducible refine (ct _).out.mono ?_); rintro e w2 ⟨rfl, h2⟩; have H2 := Lib.hid (P13.below C HP.out h2); clear h2)) | (go_at_call 14; ((with_reducible refine (c1 _ H2.out).out.mono ?_); rintro e w3 ⟨rfl, h3⟩; have H3 := Lib.hid h3; clear h3 H2)))
        all_goals (
          obtain ⟨F3, _, hf3⟩ := H3.out
          go_ret
          first
            | exact ⟨by rw [show max 0 ((N : Int) - T) = (N : Int) - T by omega, beq_self_eq_true]; rfl, hf3⟩
            | exact ⟨by rw [show max 0 ((N : Int) - T) = 0 by omega]; rfl, hf3⟩)
end Go.Proofs.Ythojjpoadabehaa
namespace Go.Proofs.Ythojjpoadabehaa
open Go.RowKit
set_option linter.unusedVariables false
set_option linter.unusedSimpArgs false
theorem lk_u16 {w : World} {B n : Nat} {ad : Addr} {l : List Int} (h : Lies w B 1 (some ad) n (Lk.u16s l)) (hn : n = l.length) (f : Nat) (hf : f < l.length) : w.cell? (ad.add f) = some (.int .u16 (l.getD f 0)) := by
  refine h.cell ad rfl (by omega) f _ ?_
  unfold Lk.u16s
  rw [List.getElem?_map, List.getElem?_eq_getElem hf]
  simp [hf]
set_option maxRecDepth 100000 in
set_option maxHeartbeats 4000000 in
theorem same13_any (A A' : Option Addr) (n n' c c' : Nat) (l : List Int) (w : World) (hn : n = l.length) (hn' : n' = l.length) (hs : l.length ≤ 1000) (h : Lies w w.heap.size 1 A n (Lk.u16s l)) (h' : Lies w w.heap.size 1 A' n' (Lk.u16s l)) :
    Calls Try.prog 16 #[.slice A n c, .slice A' n' c'] w fun e w' => e = .returned (.bool true) ∧ Below w.heap.size w w' := by
  have HL := Lib.hid h
  have HL' := Lib.hid h'
  obtain rfl : n' = n := by omega
  clear h h' hn'
  have NL := Lib.hid hn
  rw [← hn] at hs
  clear hn
  go_enter Try.func16, Try.ntmps16
  go_wp2_with fail
  go_loopw [5] (fun i wr => ∃ k : Nat, k ≤ n' ∧ i = .int .i64 k ∧ Below w.heap.size w wr) (fun i _ => n' - (intOf i).toNat)
  case atStart => exact ⟨0, Nat.zero_le _, rfl, Below.refl _ _⟩
  case round =>
    obtain ⟨k, hk, rfl, hb⟩ := hrel
    have HB := Lib.hid hb
    clear hb
    by_cases hlt : k < n'
    · have hlti : (k : Int) < n' := by omega
      obtain ⟨ad, rfl, _⟩ := HL.out.start (by omega)
      obtain ⟨ad', rfl, _⟩ := HL'.out.start (by omega)
      have q1 := lk_u16 (HL.out.below HB.out) NL.out k (by have := NL.out; omega)
      have q2 := lk_u16 (HL'.out.below HB.out) NL.out k (by have := NL.out; omega)
      generalize l.getD k 0 = z at *
      go_upto_region 6 with fail
      go_quiet (fail)
      go_wp2
      go_roundw
      case rel => exact ⟨k + 1, by omega, by go_num, draws_below HB.out _⟩
      case measure => simp [intOf]; omega
    · obtain rfl : k = n' := by omega
      go_wp2_with fail
      go_ret
      exact ⟨rfl, HB.out⟩
end Go.Proofs.Ythojjpoadabehaa
namespace Go.Proofs.Ythojjpoadabehaa
open Go.RowKit
set_option linter.unusedVariables false
set_option linter.unusedSimpArgs false
/-- append to such a row, as one step of a region that draws. -/
theorem step_append_que {ops : Array Oper} {o : Oper} {a : Act} {w : World} {K : Act → World → Prop} {Q : Exit → Act → World → Prop} {E : Prop}
    (hg : o.guard = none) (s x : Operand) (hop : o.op = Op.call { callee := Callee.builtin Builtin.append, args := #[s, x], argTypes := #[38, 38] })
    {base n c : Nat} {A : Option Addr} {xs : List Value} (h : Que w base A n c xs) (hbase : base ≤ w.heap.size) (hn : n ≤ 1000) (v : Int) (ad : Addr) (k : Nat) (hv : a.eval s = .slice A n c) (hx : a.eval x = .slice (some ad) 1 k) (hc : ∀ j u, [Value.int .u16 v][j]? = some u → w.cell? (ad.add j) = some u)
    (hK : ∀ A' c' w', Que w' base A' (n + 1) c' (xs ++ [.int .u16 v]) → w.grownBy w' (A.map (·.block)) → (A'.map (·.block) = A.map (·.block) ∨ ∀ g, A'.map (·.block) = some g → w.heap.size ≤ g) → K (a.put o.dst (.slice A' (n + 1) c')) w') :
    if Region.wanted o (yielded ops a.tmps) = true then Oper.wp Try.prog o a w K Q else E := by
  have hw : Region.wanted o (yielded ops a.tmps) = true := by simp [Region.wanted, hg]
  rw [if_pos hw]
  obtain ⟨A', c', w', hrun, r1, r2, r3⟩ := h.append (ty := o.type) hbase v (k := k) hc hn
  unfold Oper.wp
  simp [execOp, hop, resolve, invoke, builtin, hv, hx, hrun, Result.andThen]
  exact hK A' c' w' r1 r2 r3
theorem u16s1_fill (v : Int) : Instr.fill (fun i => some (i * 1, 1)) ((Array.range (1 * 1)).map ((Value.int .u16 0).cells[· % (Value.int .u16 0).cells.size]!)) [(0, .int .u16 v)] = some #[.int .u16 v] := by kernel_rfl
theorem u16s1 (v : Int) (W : World) : (Instr.buildSlice 38 1 #[(0, .int .u16 v)]).run Try.prog W = .ok (.slice (some ⟨W.heap.size, 0, none⟩) 1 1) (W.alloc (.cells #[.int .u16 v] 28)) := by
  obtain ⟨i, hi, hz, hs, _⟩ := info_parts u16_infoQ
  exact run_buildSlice W _ _ 1 _ _ i _ Try.underlying38 hi hz (by rw [hs]; decide) (by rw [hs]; decide) (by rw [hs]; exact u16s1_fill v)
theorem Que.lt {w : World} {base n c : Nat} {A : Option Addr} {xs : List Value} (h : Que w base A n c xs) {g : Nat} (hg : A.map (·.block) = some g) : g < w.heap.size := by
  rcases h.at_ with ⟨rfl, _⟩ | ⟨g', off, cells, rfl, _, hB, _⟩
  · cases hg
  · injection hg with hg; subst hg; exact hB.lt
theorem SaysL.mk {b B n c : Nat} {F : Nat → Prop} {A : Option Addr} {X X' : World} {ser t : Int} {h : Sr.H} {op : List Int} (r : Value) (K : KeepL F X X') (up : ∀ k, F k → b ≤ k ∧ k < X.heap.size) (hb : b ≤ X.heap.size) (own : F B)
    (hB : Box X' B 40 (h.lcells ⟨ser, t, .slice A n c⟩)) (hQ : Que X' b A n c (Lk.u16s op)) (hA : ∀ g, A.map (·.block) = some g → F g ∨ X.heap.size ≤ g) : SaysL b F B ⟨ser, h, t, op⟩ r X (.returned r) X' := by
  have hn := hQ.len
  rw [Lk.u16s_len] at hn
  subst hn
  refine ⟨rfl, fun k => F k ∨ (X.heap.size ≤ k ∧ k < X'.heap.size), fun k hk => hk.imp id And.left, ⟨⟨A, c, hB, hQ, fun g hg => (hA g hg).imp id fun h => ⟨h, hQ.lt hg⟩⟩, .inl own, fun k hk => ?_⟩, K⟩
  rcases hk with hk | ⟨h1, h2⟩
  · exact ⟨(up k hk).1, Nat.lt_of_lt_of_le (up k hk).2 K.size⟩
  · exact ⟨Nat.le_trans hb h1, h2⟩
theorem cell_one (W : World) (v : Int) (j : Nat) (u : Value) (hj : [Value.int .u16 v][j]? = some u) : (W.alloc (.cells #[.int .u16 v] 28)).cell? (Addr.add ⟨W.heap.size, 0, none⟩ j) = some u := by
  obtain ⟨h1, h2⟩ := List.getElem?_eq_some_iff.1 hj
  obtain rfl : j = 0 := by simpa using h1
  rw [← hj]
  exact (Box.made W 28 #[.int .u16 v]).cell 0
set_option maxRecDepth 100000 in
set_option maxHeartbeats 4000000 in
theorem refstamp_any (b : Nat) (F : Nat → Prop) (B : Nat) (m : Lk.M) (ho : m.Ok) (X : World) (h : RefL b F B m X) (hb : b ≤ X.heap.size) :
    Calls Try.prog 11 #[.pointer (some ⟨B, 0, none⟩)] X (SaysL b F B (Lk.stamp m) (.tuple #[.int .u16 (Lk.next m), .int .u16 m.h.last, .int .u32 (m.h.seen : Nat)]) X) := by
  obtain ⟨A, c, hB, hQ, hA⟩ := h.box
  have hfew := ho.few
  have hhok := ho.h
  have hown := Lib.hid h.own
  have hup := Lib.hid h.up
  have HA := Lib.hid hA
  have hse := ho.ser
  obtain ⟨ser, hh, t, op⟩ := m
  dsimp only at hB hQ hfew hhok hse ⊢
  obtain ⟨nx, hnx⟩ : ∃ nx, nx = Lk.next ⟨ser, hh, t, op⟩ := ⟨_, rfl⟩
  have hw : IntKind.u16.wrap (ser + 1) = nx := by rw [hnx]; exact IntKind.wrap_u16 _
  rw [← hnx]
  have HST := Lib.hid (show Lk.stamp ⟨ser, hh, t, op⟩ = ⟨nx, hh, t, Lk.few (op ++ [nx])⟩ by unfold Lk.stamp; rw [← hnx])
  clear hnx h hA ho
  have k0 : X.cell? ⟨B, 0, none⟩ = some (.int .u16 ser) := hB.cell 0
  have f0 := hB.free 0
  have l0 := hB.lt
  have B1 := Lib.hid (show Box (X.setCell ⟨B, 0, none⟩ (.int .u16 nx)) B 40 (hh.lcells ⟨nx, t, .slice A op.length c⟩) from hB.put 0 (.int .u16 nx))
  have Q1 := Lib.hid (hQ.far (p := ⟨B, 0, none⟩) hB (by decide) (.int .u16 nx))
  have K1 := Lib.hid ((KeepL.refl F X).put (.inl hown.out) 0 (.int .u16 nx))
  have s1 : (X.setCell ⟨B, 0, none⟩ (.int .u16 nx)).heap.size = X.heap.size := by simp
  clear hB hQ
  go_enter Try.func11, Try.ntmps11
  go_upto_region 2 with fail
  clear k0 f0 l0 hw
  generalize X.setCell ⟨B, 0, none⟩ (.int .u16 nx) = X1 at *
  generalize op.length = n at *
  have BD := Lib.hid B1.out.drew
  have QD := Lib.hid (Q1.out.below (Below.drew (Below.refl _ _)))
  have k0 : X1.drew.cell? ⟨B, 0, none⟩ = some (.int .u16 nx) := BD.out.cell 0
  have k37 : X1.drew.cell? ⟨B, 37, none⟩ = some (.slice A n c) := BD.out.cell 37
  have sl := u16s1 nx
  have k37a : (X1.alloc (.cells #[.int .u16 nx] 28)).cell? ⟨B, 37, none⟩ = some (.slice A n c) := (B1.out.alloc (.cells #[.int .u16 nx] 28)).cell 37
  have QA := fun cs => Lib.hid (QD.out.below (one_below X1.drew (.cells cs 28)))
  have BA := fun cs => Lib.hid (BD.out.alloc (.cells cs 28))
  have S1 := Lib.hid s1
  have hbx : b ≤ X1.heap.size := by omega
  clear s1
  have sD : X1.drew.heap.size = X1.heap.size := rfl
  go_region_law ((refine step_append_que (by rfl) (.tmp 18) (.tmp 23) (by rfl) (QA _).out (by simp; omega) (by omega) nx ⟨X1.drew.heap.size, 0, none⟩ 1 (by rfl) (by rfl) (cell_one X1.drew nx) ?_; intro A2 c2 w2 Q2' hg2 hA2; have Q2 := Lib.hid Q2'; have B2 := Lib.hid ((QA _).out.grown_box (BA _).out (by decide) hg2); have l2 := B2.out.lt; have f2 := B2.out.free 37; have k2 := (B2.out.cell 37).trans (show _ = some (Value.slice A n c) from rfl); have G2 := Lib.hid hg2; have HA2 := Lib.hid hA2; clear Q2' hg2 hA2))
  all_goals (
    have KX : KeepL F X (w2.setCell ⟨B, 37, none⟩ (.slice A2 (n + 1) c2)) := by
      have h1 := K1.out.call (Below.drew (one_below X1 (.cells #[.int .u16 nx] 28)))
      have h2 := KeepL.grown h1 G2.out (fun g hg => .inl (HA.out g hg))
      exact h2.put (.inl hown.out) 37 _
    have K3 := Lib.hid KX
    have B3 := Lib.hid (show Box (w2.setCell ⟨B, 37, none⟩ (.slice A2 (n + 1) c2)) B 40 (hh.lcells ⟨nx, t, .slice A2 (n + 1) c2⟩) from B2.out.put 37 (.slice A2 (n + 1) c2))
    have Q3 := Lib.hid (Q2.out.far (p := ⟨B, 37, none⟩) B2.out (by decide) (.slice A2 (n + 1) c2))
    have HA3 := Lib.hid (show ∀ g, A2.map (·.block) = some g → F g ∨ X.heap.size ≤ g from fun g hg => by
      rcases HA2.out with h | h
      · exact .inl (HA.out g (by rw [← h]; exact hg))
      · right
        have := h g hg
        have hs : (X1.alloc (.cells #[.int .u16 nx] 28)).drew.heap.size = X1.heap.size + 1 := by simp
        have := S1.out
        omega)
    clear k0 k37 k37a sl QA BA S1 hbx sD KX B2 Q2 G2 HA2 l2 f2 k2 BD QD B1 Q1 K1
    generalize w2.setCell ⟨B, 37, none⟩ (.slice A2 (n + 1) c2) = X3 at *
    have k3 : X3.cell? ⟨B, 37, none⟩ = some (.slice A2 (n + 1) c2) := B3.out.cell 37
    have f3 := B3.out.free 37
    have l3 := B3.out.lt
    have cl := fun x X hX => Lib.hid (reflast_anyL x hh hhok B X hX)
    by_cases h65 : 64 < n + 1
    · obtain ⟨g, off, rfl, Q4'⟩ := Q3.out.tail (Nat.succ_pos n)
      have h65i : (64 : Int) < (n : Int) + 1 := by omega
      have Q4 := Lib.hid (Q4'.far (p := ⟨B, 37, none⟩) B3.out (by decide) (.slice (some ⟨g, off + 1, none⟩) (n + 1 - 1) (c2 - 1)))
      have B4 := Lib.hid (show Box (X3.setCell ⟨B, 37, none⟩ (.slice (some ⟨g, off + 1, none⟩) (n + 1 - 1) (c2 - 1))) B 40 (hh.lcells ⟨nx, t, .slice (some ⟨g, off + 1, none⟩) (n + 1 - 1) (c2 - 1)⟩) from B3.out.put 37 _)
      have K4 := Lib.hid (K3.out.put (.inl hown.out) 37 (.slice (some ⟨g, off + 1, none⟩) (n + 1 - 1) (c2 - 1)))
      have hle := Q3.out.le
      clear Q4'
      have k4 : (X3.setCell ⟨B, 37, none⟩ (.slice (some ⟨g, off + 1, none⟩) (n + 1 - 1) (c2 - 1))).cell? ⟨B, 0, none⟩ = some (.int .u16 nx) := B4.out.cell 0
      rw [show n + 1 - 1 = n from rfl] at *
      go_wp2_with ((go_at_call 21; ((with_reducible refine ((cl _ _ B4.out).out).mono ?_); rintro e w5 ⟨rfl, rfl⟩)))
      go_ret3
      rw [HST.out]
      refine SaysL.mk _ K4.out hup.out hb hown.out B4.out ?_ (fun g' hg => HA3.out g' hg)
      have hl := Q3.out.len
      have hfw : Lk.few (op ++ [nx]) = (op ++ [nx]).drop 1 := by
        unfold Lk.few
        rw [if_pos]
        rw [List.length_append, Lk.u16s_len] at hl
        rw [List.length_append]
        show 64 < op.length + 1
        have hl' : op.length + 1 = n + 1 := hl
        omega
      rw [hfw]
      have hq := Q4.out
      unfold Lk.u16s at hq ⊢
      rw [List.map_drop, List.map_append]
      exact hq
    · have h65i : ¬ (64 : Int) < (n : Int) + 1 := by omega
      have k4 : X3.cell? ⟨B, 0, none⟩ = some (.int .u16 nx) := B3.out.cell 0
      go_wp2_with ((go_at_call 21; ((with_reducible refine ((cl _ _ B3.out).out).mono ?_); rintro e w5 ⟨rfl, rfl⟩)))
      go_ret3
      rw [HST.out]
      refine SaysL.mk _ K3.out hup.out hb hown.out B3.out ?_ HA3.out
      have hl := Q3.out.len
      have hfw : Lk.few (op ++ [nx]) = op ++ [nx] := by
        unfold Lk.few
        rw [if_neg]
        rw [List.length_append, Lk.u16s_len] at hl
        rw [List.length_append]
        show ¬ (64 < op.length + 1)
        have hl' : op.length + 1 = n + 1 := hl
        omega
      rw [hfw]
      have hq := Q3.out
      unfold Lk.u16s at hq ⊢
      rw [List.map_append]
      exact hq)
end Go.Proofs.Ythojjpoadabehaa
namespace Go.Proofs.Ythojjpoadabehaa
open Go.RowKit
set_option linter.unusedVariables false
set_option linter.unusedSimpArgs false
/-- append to such a row, in a plain region. -/
theorem wpList_append_que {ops : Array Oper} {rest : List Oper} {o : Oper} {a : Act} {w : World} {Q : Exit → Act → World → Prop} (hgd : o.guard = none) (s x : Operand)
    (ho : o.op = Op.call { callee := Callee.builtin Builtin.append, args := #[s, x], argTypes := #[38, 38] })
    {base n c : Nat} {A : Option Addr} {xs : List Value} (h : Que w base A n c xs) (hbase : base ≤ w.heap.size) (hn : n ≤ 1000) (v : Int) (ad : Addr) (k : Nat) (hv : a.eval s = .slice A n c) (hx : a.eval x = .slice (some ad) 1 k) (hc : ∀ j u, [Value.int .u16 v][j]? = some u → w.cell? (ad.add j) = some u)
    (hK : ∀ A' c' w', Que w' base A' (n + 1) c' (xs ++ [.int .u16 v]) → w.grownBy w' (A.map (·.block)) → (A'.map (·.block) = A.map (·.block) ∨ ∀ g, A'.map (·.block) = some g → w.heap.size ≤ g) → wpList Try.prog ops Q rest (a.put o.dst (.slice A' (n + 1) c')) w') :
    wpList Try.prog ops Q (o :: rest) a w := by
  refine wpList_plain hgd fun K hKK => ?_
  obtain ⟨A', c', w', hrun, r1, r2, r3⟩ := h.append (ty := o.type) hbase v (k := k) hc hn
  unfold Oper.wp execOp
  simp only [ho, resolve, invoke, builtin, Sem.run_bind, Sem.run_pure, Result.andThen_ok, List.map_toArray, List.map_cons, List.map_nil, hv, hx, hrun]
  exact hKK _ _ (hK A' c' w' r1 r2 r3)
theorem below_grownQ {b : Nat} {w w' w'' : World} {row : Option Nat} (h : Below b w w') (hb : b ≤ w.heap.size) (hg : w'.grownBy w'' row) (hr : ∀ g, row = some g → b ≤ g) : Below b w w'' :=
  ⟨hg.os.trans h.os, hg.tape.trans h.tape, hg.output.trans h.output, Nat.le_trans h.size hg.size, fun k hk => (hg.block k (Nat.lt_of_lt_of_le (Nat.lt_of_lt_of_le hk hb) h.size) (fun e => by have := hr k e.symm; omega)).trans (h.block k hk)⟩
theorem Que.up {w : World} {base n c : Nat} {A : Option Addr} {xs : List Value} (h : Que w base A n c xs) (g : Nat) (hg : A.map (·.block) = some g) : base ≤ g := by
  rcases h.at_ with ⟨rfl, _⟩ | ⟨g', off, cells, rfl, hb, _⟩
  · cases hg
  · injection hg with hg; subst hg; exact hb
/-- What of the first so many is left. -/
def Lk.left (op : List Int) (ack : Int) (seen k : Nat) : List Int := (op.take k).filter fun x => !Sr.told x ack seen
theorem Lk.left_succ (op : List Int) (ack : Int) (seen k : Nat) (x : Int) (hx : op[k]? = some x) : Lk.left op ack seen (k + 1) = Lk.left op ack seen k ++ (if Sr.told x ack seen = true then [] else [x]) := by
  unfold Lk.left
  rw [List.take_add_one, hx, List.filter_append]
  congr 1
  show List.filter _ [x] = _
  rw [List.filter_cons]
  cases Sr.told x ack seen <;> rfl
theorem Lk.left_all (op : List Int) (ack : Int) (seen : Nat) : Lk.left op ack seen op.length = op.filter fun x => !Sr.told x ack seen := by
  unfold Lk.left
  rw [List.take_length]
theorem Lk.left_len (op : List Int) (ack : Int) (seen k : Nat) : (Lk.left op ack seen k).length ≤ k :=
  Nat.le_trans (List.length_filter_le _ _) (by rw [List.length_take]; omega)
set_option maxRecDepth 100000 in
set_option maxHeartbeats 4000000 in
theorem refhear_any (b : Nat) (F : Nat → Prop) (B : Nat) (m : Lk.M) (ho : m.Ok) (now s ack : Int) (seen : Nat) (hnow : -9223372036854775808 ≤ now ∧ now ≤ 9223372036854775807) (hs : 0 ≤ s ∧ s ≤ 65535) (ha : 0 ≤ ack ∧ ack ≤ 65535) (hn : seen < 4294967296) (X : World) (h : RefL b F B m X) (hb : b ≤ X.heap.size) :
    Calls Try.prog 13 #[.pointer (some ⟨B, 0, none⟩), .int .i64 now, .int .u16 s, .int .u16 ack, .int .u32 (seen : Nat)] X (SaysL b F B (Lk.hear m now s ack seen) (.bool (Lk.fresh m s)) X) := by
  obtain ⟨A, c, hB, hQ, hA⟩ := h.box
  have hfew := ho.few
  have hop := Lib.hid ho.op
  have hhok := ho.h
  have hat := ho.at_
  have hown := Lib.hid h.own
  have hup := Lib.hid h.up
  have HA := Lib.hid hA
  obtain ⟨ser, hh, t, op⟩ := m
  dsimp only at hB hQ hfew hhok hat hop ⊢
  have HH := Lib.hid (show Lk.hear ⟨ser, hh, t, op⟩ now s ack seen = ⟨ser, Sr.note hh s, max t now, Lk.left op ack seen op.length⟩ by rw [Lk.left_all]; rfl)
  have HF : Lk.fresh ⟨ser, hh, t, op⟩ s = Sr.fresh hh s := rfl
  rw [HF]
  have cn := fun x X' hX => Lib.hid (refnote_anyL x hh hhok s hs B X' hX)
  have ct := fun x X' hx => Lib.hid (reftold_any x ack seen ha hx hn X')
  have HB := Lib.hid hB
  have HQ := Lib.hid hQ
  have BX := Lib.hid hB.lt
  clear h hA ho hB hQ HF HA
  go_enter Try.func13, Try.ntmps13
  go_wp2_with fail
  go_loopw [11, 12] (fun l i wr => ∃ (k : Nat) (A' : Option Addr) (c' : Nat), k ≤ op.length ∧ i = .int .i64 k ∧ l = .slice A' (Lk.left op ack seen k).length c' ∧ Que wr X.heap.size A' (Lk.left op ack seen k).length c' (Lk.u16s (Lk.left op ack seen k)) ∧ Below X.heap.size X wr) (fun _ i _ => op.length - (intOf i).toNat)
  case atStart => exact ⟨0, none, 0, Nat.zero_le _, rfl, rfl, Que.nil _ _, Below.refl _ _⟩
  case round =>
    obtain ⟨k, A', c', hk, rfl, rfl, hL, hW⟩ := hrel
    have HL := Lib.hid hL
    have HW := Lib.hid hW
    have BW := Lib.hid (HB.out.below hW BX.out)
    have QW := Lib.hid (HQ.out.below (hW.mono (Nat.le_refl _)))
    have k37 : wr.cell? ⟨B, 37, none⟩ = some (.slice A op.length c) := BW.out.cell 37
    clear hL hW
    by_cases hlt : k < op.length
    · have hlti : (k : Int) < op.length := by omega
      obtain ⟨g, off, cells, rfl, hbg, hG, hsz, hat'⟩ : ∃ g off cells, A = some ⟨g, off, none⟩ ∧ b ≤ g ∧ Box wr g 28 cells ∧ off + c ≤ cells.size ∧ ∀ j, j < op.length → cells[off + j]? = (Lk.u16s op)[j]? := by
        rcases QW.out.at_ with ⟨_, h0, _⟩ | h
        · omega
        · exact h
      have hx : op[k]? = some op[k] := List.getElem?_eq_getElem hlt
      have hxb := hop.out op[k] (List.getElem_mem hlt)
      have kx : wr.cell? ⟨g, off + k, none⟩ = some (.int .u16 op[k]) := by
        rw [hG.cell, hat' k hlt]
        unfold Lk.u16s
        rw [List.getElem?_map, hx]
        rfl
      have HS := Lib.hid (Lk.left_succ op ack seen k op[k] hx)
      have hct := fun X' => ct op[k] X' hxb
      generalize op[k] = x at *
      have HG := Lib.hid hG
      clear hG hat' hx hxb
      have hk64 : k < 64 := by omega
      cases htd : Sr.told x ack seen
      · rw [htd] at hct
        have HSx := Lib.hid (show Lk.left op ack seen (k + 1) = Lk.left op ack seen k ++ [x] by rw [HS.out, htd]; rfl)
        have hml := Lk.left_len op ack seen k
        have hmr : (Lk.left op ack seen k).length = (Lk.left op ack seen k).length := rfl
        have HSl := Lib.hid (show (Lk.left op ack seen (k + 1)).length = (Lk.left op ack seen k).length + 1 by rw [HSx.out, List.length_append]; rfl)
        have HSu := Lib.hid (show Lk.u16s (Lk.left op ack seen (k + 1)) = Lk.u16s (Lk.left op ack seen k) ++ [.int .u16 x] by rw [HSx.out]; exact List.map_append)
        have k37d : wr.drew.cell? ⟨B, 37, none⟩ = some (.slice (some ⟨g, off, none⟩) op.length c) := k37
        have kxd : wr.drew.cell? ⟨g, off + k, none⟩ = some (.int .u16 x) := kx
        have hXw := HW.out.size
        have sl := u16s1 x
        have QA := Lib.hid (HL.out.below (one_below wr (.cells #[.int .u16 x] 28)))
        clear htd hmr
        go_wp2_with (first | (go_at_call 26; ((with_reducible refine ((hct _).out).mono ?_); rintro e w5 ⟨rfl, rfl⟩)) | (at_builtin; refine wpList_append_que (by rfl) (.tmp 33) (.tmp 41) (by rfl) QA.out (by simp; omega) (by omega) x ⟨wr.heap.size, 0, none⟩ 1 (by rfl) (by rfl) (cell_one wr x) ?_; intro A2 c2 w2 Q2' hg2 hA2; have Q2 := Lib.hid Q2'; have G2 := Lib.hid hg2; clear Q2' hg2 hA2))
        go_roundw
        case rel => exact ⟨k + 1, A2, c2, by omega, by go_num, by rw [HSl.out], by rw [HSl.out, HSu.out]; exact Q2.out, below_grownQ (HW.out.trans ((one_below wr (.cells #[.int .u16 x] 28)).mono HW.out.size)) (Nat.le_refl _) G2.out QA.out.up⟩
        case measure => simp [intOf]; omega
      · rw [htd] at hct
        have HSx := Lib.hid (show Lk.left op ack seen (k + 1) = Lk.left op ack seen k by rw [HS.out, htd]; exact List.append_nil _)
        clear htd
        go_wp2_with ((go_at_call 26; ((with_reducible refine ((hct _).out).mono ?_); rintro e w5 ⟨rfl, rfl⟩)))
        go_roundw
        case rel => exact ⟨k + 1, A', c', by omega, by go_num, by rw [HSx.out], by rw [HSx.out]; exact HL.out, HW.out⟩
        case measure => simp [intOf]; omega
    · obtain rfl : k = op.length := by omega
      have hlti : ¬ (op.length : Int) < op.length := by omega
      have QL := Lib.hid HL.out.up
      generalize Lk.left op ack seen op.length = lf at *
      have B1 := Lib.hid (show Box (wr.setCell ⟨B, 37, none⟩ (.slice A' lf.length c')) B 40 (hh.lcells ⟨ser, t, .slice A' lf.length c'⟩) from BW.out.put 37 _)
      have Q1 := Lib.hid (HL.out.far (p := ⟨B, 37, none⟩) BW.out (by decide) (.slice A' lf.length c'))
      have K1 := Lib.hid (KeepL.put ((KeepL.refl F X).call HW.out) (.inl hown.out) 37 (.slice A' lf.length c'))
      have f37 := BW.out.free 37
      have lB := BW.out.lt
      clear HL BW QW HW
      go_upto_region 8 with fail
      clear k37 f37 lB
      generalize wr.setCell ⟨B, 37, none⟩ (.slice A' lf.length c') = X1 at *
      have k36 : X1.cell? ⟨B, 36, none⟩ = some (.int .i64 t) := B1.out.cell 36
      have f36 := B1.out.free 36
      have lB := B1.out.lt
      have HM := Lib.hid (show max t now = if t < now then now else t by rw [Int.max_def]; split <;> split <;> omega)
      have B2 := Lib.hid (show Box (X1.setCell ⟨B, 36, none⟩ (.int .i64 (if t < now then now else t))) B 40 (hh.lcells ⟨ser, (if t < now then now else t), .slice A' lf.length c'⟩) from B1.out.put 36 _)
      have Q2 := Lib.hid (Q1.out.far (p := ⟨B, 36, none⟩) B1.out (by decide) (.int .i64 (if t < now then now else t)))
      have K2 := Lib.hid (K1.out.put (.inl hown.out) 36 (.int .i64 (if t < now then now else t)))
      go_upto_region 9 with fail
      clear k36 f36 lB
      generalize (if t < now then now else t) = mx at *
      generalize X1.setCell ⟨B, 36, none⟩ (.int .i64 mx) = X2 at *
      go_wp2_with ((go_at_call 27; ((with_reducible refine ((cn _ _ B2.out).out).mono ?_); rintro e w9 ⟨rfl, hb9, ho9⟩)))
      go_ret
      rw [HH.out, HM.out]
      refine SaysL.mk _ ?_ hup.out hb hown.out hb9 ?_ (fun g hg => .inr (QL.out g hg))
      · exact K2.out.trans (F' := fun k => k = B) ⟨ho9.os, ho9.tape, ho9.output, ho9.size, fun k hk hne => ho9.block k hk hne⟩ (fun j hj => by subst hj; exact .inl hown.out)
      · refine (Q2.out.lower hb).keep fun g cs hg hbx => ⟨(ho9.block g hbx.lt fun e => ?_).trans hbx.is⟩
        exact Box.apart hbx B2.out (by decide) e
end Go.Proofs.Ythojjpoadabehaa
namespace Go.Proofs.Ythojjpoadabehaa
open Go.RowKit
set_option linter.unusedVariables false
structure UK (LP : LkP) : Prop where
  up : ∀ {b F B m X}, LP b F B m X → ∀ k, F k → b ≤ k ∧ k < X.heap.size
  keep : ∀ {b F B m X G X'}, LP b F B m X → KeepL G X X' → (∀ j, F j → ¬ G j) → LP b F B m X'
theorem LinkC.uk {LP : LkP} (C : LinkC LP) : UK LP := ⟨C.up, C.keep⟩
theorem ref_uk : UK RefL := ⟨fun h => h.up, fun h => h.keep⟩
/-- Two links and a row, and the world behind them. -/
def T13 (LP LQ : LkP) (w : World) (Ba : Nat) (ma : Lk.M) (Bb : Nat) (mb : Lk.M) (A : Option Addr) (n c : Nat) (xs : List Value) (X : World) : Prop :=
  ∃ F G, LP w.heap.size F Ba ma X ∧ LQ w.heap.size G Bb mb X ∧ (∀ j, F j → ¬ G j) ∧ Que X w.heap.size A n c xs ∧ (∀ g, A.map (·.block) = some g → ¬ F g ∧ ¬ G g) ∧ Below w.heap.size w X
section
variable {LP LQ : LkP} {w : World} {Ba Bb : Nat} {ma mb : Lk.M} {A : Option Addr} {n c : Nat} {xs : List Value} {X X' : World}
theorem T13.swap (h : T13 LP LQ w Ba ma Bb mb A n c xs X) : T13 LQ LP w Bb mb Ba ma A n c xs X := by
  obtain ⟨F, G, h1, h2, h3, h4, h5, h6⟩ := h
  exact ⟨G, F, h2, h1, fun j hg hf => h3 j hf hg, h4, fun g hg => ⟨(h5 g hg).2, (h5 g hg).1⟩, h6⟩
theorem Que.kept {G : Nat → Prop} {b : Nat} (h : Que X b A n c xs) (k : KeepL G X X') (hd : ∀ g, A.map (·.block) = some g → ¬ G g) : Que X' b A n c xs :=
  h.keep fun g cs hg hb => ⟨(k.block g hb.lt (hd g hg)).trans hb.is⟩
theorem keep_below (hb : Below X.heap.size X X') : KeepL (fun _ => False) X X' := ⟨hb.os, hb.tape, hb.output, hb.size, fun k hk _ => hb.block k hk⟩
theorem T13.below (U : UK LP) (V : UK LQ) (h : T13 LP LQ w Ba ma Bb mb A n c xs X) (hb : Below X.heap.size X X') : T13 LP LQ w Ba ma Bb mb A n c xs X' := by
  obtain ⟨F, G, h1, h2, h3, h4, h5, h6⟩ := h
  have k := keep_below hb
  exact ⟨F, G, U.keep h1 k (fun _ _ h => h), V.keep h2 k (fun _ _ h => h), h3, h4.kept k (fun _ _ h => h), h5, h6.trans (hb.mono h6.size)⟩
theorem T13.a_says (U : UK LP) (V : UK LQ) {F G : Nat → Prop} {m' : Lk.M} {r : Value} {e : Ending} (h1 : LP w.heap.size F Ba ma X) (h2 : LQ w.heap.size G Bb mb X) (h3 : ∀ j, F j → ¬ G j) (h4 : Que X w.heap.size A n c xs) (h5 : ∀ g, A.map (·.block) = some g → ¬ F g ∧ ¬ G g) (h6 : Below w.heap.size w X)
    (hs : SaysP LP w.heap.size F Ba m' r X e X') : e = .returned r ∧ T13 LP LQ w Ba m' Bb mb A n c xs X' := by
  obtain ⟨rfl, F', hF, hL, hK⟩ := hs
  refine ⟨rfl, F', G, hL, V.keep h2 hK (fun j hg hf => h3 j hf hg), fun j hf hg => ?_, h4.kept hK (fun g hg => (h5 g hg).1), fun g hg => ⟨fun hf => ?_, (h5 g hg).2⟩, h6.trans (hK.below (fun k hk => (U.up h1 k hk).1) h6.size)⟩
  · rcases hF j hf with hf | hf
    · exact h3 j hf hg
    · have := (V.up h2 j hg).2; omega
  · rcases hF g hf with hf | hf
    · exact (h5 g hg).1 hf
    · have := h4.lt hg; omega
theorem T13.stamp (C : LinkC LP) (V : UK LQ) (ho : ma.Ok) (h : T13 LP LQ w Ba ma Bb mb A n c xs X) :
    Calls Try.prog 10 #[.pointer (some ⟨Ba, 0, none⟩)] X fun e X' => e = .returned (.tuple #[.int .u16 (Lk.next ma), .int .u16 ma.h.last, .int .u32 (ma.h.seen : Nat)]) ∧ T13 LP LQ w Ba (Lk.stamp ma) Bb mb A n c xs X' := by
  obtain ⟨F, G, h1, h2, h3, h4, h5, h6⟩ := h
  exact (C.stamp _ F Ba ma ho X h1 h6.size).mono fun e X' h => T13.a_says C.uk V h1 h2 h3 h4 h5 h6 h
theorem T13.hear (C : LinkC LP) (V : UK LQ) (ho : ma.Ok) (now s ack : Int) (seen : Nat) (hn : -9223372036854775808 ≤ now ∧ now ≤ 9223372036854775807) (hs : 0 ≤ s ∧ s ≤ 65535) (ha : 0 ≤ ack ∧ ack ≤ 65535) (hse : seen < 4294967296) (h : T13 LP LQ w Ba ma Bb mb A n c xs X) :
    Calls Try.prog 12 #[.pointer (some ⟨Ba, 0, none⟩), .int .i64 now, .int .u16 s, .int .u16 ack, .int .u32 (seen : Nat)] X fun e X' => e = .returned (.bool (Lk.fresh ma s)) ∧ T13 LP LQ w Ba (Lk.hear ma now s ack seen) Bb mb A n c xs X' := by
  obtain ⟨F, G, h1, h2, h3, h4, h5, h6⟩ := h
  exact (C.hear _ F Ba ma ho now s ack seen hn hs ha hse X h1 h6.size).mono fun e X' h => T13.a_says C.uk V h1 h2 h3 h4 h5 h6 h
theorem T13.quiet (C : LinkC LP) (V : UK LQ) (ho : ma.Ok) (now : Int) (hn : -9223372036854775808 ≤ now ∧ now ≤ 9223372036854775807) (hw : now - ma.at_ ≤ 9223372036854775807) (h : T13 LP LQ w Ba ma Bb mb A n c xs X) :
    Calls Try.prog 14 #[.pointer (some ⟨Ba, 0, none⟩), .int .i64 now] X fun e X' => e = .returned (.int .i64 (max 0 (now - ma.at_))) ∧ T13 LP LQ w Ba ma Bb mb A n c xs X' := by
  have hT := h
  obtain ⟨F, G, h1, h2, h3, h4, h5, h6⟩ := h
  exact (C.quiet _ F Ba ma ho now hn hw X h1).mono fun e X' h => ⟨h.1, T13.below C.uk V hT h.2⟩
theorem T13.open_ (C : LinkC LP) (V : UK LQ) (ho : ma.Ok) (h : T13 LP LQ w Ba ma Bb mb A n c xs X) :
    Calls Try.prog 17 #[.pointer (some ⟨Ba, 0, none⟩)] X fun e X' => ∃ A1 c1, e = .returned (.slice A1 ma.op.length c1) ∧ Lies X' X'.heap.size 1 A1 ma.op.length (Lk.u16s ma.op) ∧ T13 LP LQ w Ba ma Bb mb A n c xs X' := by
  have hT := h
  obtain ⟨F, G, h1, h2, h3, h4, h5, h6⟩ := h
  refine (C.open_ _ F Ba ma ho X h1).mono fun e X' h => ?_
  obtain ⟨A1, c1, he, hl, hb⟩ := h
  exact ⟨A1, c1, he, hl, T13.below C.uk V hT hb⟩
/-- A second link comes. -/
theorem T13.second (C : LinkC LQ) (U : UK LP) (now : Int) (hn : -9223372036854775808 ≤ now ∧ now ≤ 9223372036854775807) (h : P13 LP w Ba ma X) :
    Calls Try.prog 7 #[.int .i64 now] X fun e X' => ∃ Bb, e = .returned (.pointer (some ⟨Bb, 0, none⟩)) ∧ T13 LP LQ w Ba ma Bb (Lk.new now) none 0 0 [] X' := by
  obtain ⟨F, h1, h2⟩ := h
  refine (C.new w.heap.size now X h2.size hn).mono fun e X' => ?_
  rintro ⟨B, G, rfl, g1, g2, g3⟩
  exact ⟨B, rfl, F, G, U.keep h1 (keep_below g2) (fun _ _ h => h), g1, fun j hf hg => by have := (U.up h1 j hf).2; have := g3 j hg; omega, Que.nil _ _, (fun g hg => by cases hg), h2.trans (g2.mono h2.size)⟩
theorem T13.secondRef (U : UK LP) (now : Int) (h : P13 LP w Ba ma X) :
    Calls Try.prog 8 #[.int .i64 now] X fun e X' => ∃ Bb, e = .returned (.pointer (some ⟨Bb, 0, none⟩)) ∧ T13 LP RefL w Ba ma Bb (Lk.new now) none 0 0 [] X' := by
  obtain ⟨F, h1, h2⟩ := h
  refine (refnewl_any w.heap.size now X h2.size).mono fun e X' => ?_
  rintro ⟨B, rfl, g1, g2, g3⟩
  exact ⟨B, rfl, F, _, U.keep h1 (keep_below g2) (fun _ _ h => h), g1, fun j hf hg => by have := (U.up h1 j hf).2; omega, Que.nil _ _, (fun g hg => by cases hg), h2.trans (g2.mono h2.size)⟩
theorem T13.refstamp (U : UK LP) (ho : mb.Ok) (h : T13 LP RefL w Ba ma Bb mb A n c xs X) :
    Calls Try.prog 11 #[.pointer (some ⟨Bb, 0, none⟩)] X fun e X' => e = .returned (.tuple #[.int .u16 (Lk.next mb), .int .u16 mb.h.last, .int .u32 (mb.h.seen : Nat)]) ∧ T13 LP RefL w Ba ma Bb (Lk.stamp mb) A n c xs X' := by
  obtain ⟨G, F, h1, h2, h3, h4, h5, h6⟩ := h.swap
  exact (refstamp_any _ G Bb mb ho X h1 h6.size).mono fun e X' h => (T13.a_says ref_uk U h1 h2 h3 h4 h5 h6 h).imp id T13.swap
theorem T13.refhear (U : UK LP) (ho : mb.Ok) (now s ack : Int) (seen : Nat) (hn : -9223372036854775808 ≤ now ∧ now ≤ 9223372036854775807) (hs : 0 ≤ s ∧ s ≤ 65535) (ha : 0 ≤ ack ∧ ack ≤ 65535) (hse : seen < 4294967296) (h : T13 LP RefL w Ba ma Bb mb A n c xs X) :
    Calls Try.prog 13 #[.pointer (some ⟨Bb, 0, none⟩), .int .i64 now, .int .u16 s, .int .u16 ack, .int .u32 (seen : Nat)] X fun e X' => e = .returned (.bool (Lk.fresh mb s)) ∧ T13 LP RefL w Ba ma Bb (Lk.hear mb now s ack seen) A n c xs X' := by
  obtain ⟨G, F, h1, h2, h3, h4, h5, h6⟩ := h.swap
  exact (refhear_any _ G Bb mb ho now s ack seen hn hs ha hse X h1 h6.size).mono fun e X' h => (T13.a_says ref_uk U h1 h2 h3 h4 h5 h6 h).imp id T13.swap
theorem T13.refquiet (ho : mb.Ok) (now : Int) (hn : -9223372036854775808 ≤ now ∧ now ≤ 9223372036854775807) (h : T13 LP RefL w Ba ma Bb mb A n c xs X) :
    Calls Try.prog 15 #[.pointer (some ⟨Bb, 0, none⟩), .int .i64 now] X fun e X' => e = .returned (.int .i64 (Lk.quiet mb now)) ∧ X = X' := by
  obtain ⟨F, G, h1, h2, h3, h4, h5, h6⟩ := h
  exact refquiet_any _ G Bb mb ho now hn X h2
/-- The row grows. -/
theorem T13.grown {A' : Option Addr} {n' c' : Nat} {xs' : List Value} (U : UK LP) (V : UK LQ) (h : T13 LP LQ w Ba ma Bb mb A n c xs X) (hq : Que X' w.heap.size A' n' c' xs') (hg : X.grownBy X' (A.map (·.block))) (hA : A'.map (·.block) = A.map (·.block) ∨ ∀ g, A'.map (·.block) = some g → X.heap.size ≤ g) : T13 LP LQ w Ba ma Bb mb A' n' c' xs' X' := by
  obtain ⟨F, G, h1, h2, h3, h4, h5, h6⟩ := h
  have k : KeepL (fun k => some k = A.map (·.block)) X X' := ⟨hg.os, hg.tape, hg.output, hg.size, fun k hk hne => hg.block k hk hne⟩
  refine ⟨F, G, U.keep h1 k (fun j hf hj => (h5 j hj.symm).1 hf), V.keep h2 k (fun j hf hj => (h5 j hj.symm).2 hf), h3, hq, fun g hgg => ?_, below_grownQ h6 (Nat.le_refl _) hg h4.up⟩
  rcases hA with hA | hA
  · exact h5 g (by rw [← hA]; exact hgg)
  · have := hA g hgg
    exact ⟨fun hf => by have := (U.up h1 g hf).2; omega, fun hf => by have := (V.up h2 g hf).2; omega⟩
end
end Go.Proofs.Ythojjpoadabehaa
namespace Go.Proofs.Ythojjpoadabehaa
open Go.RowKit
set_option linter.unusedVariables false
/-- Two links and a block, and the world behind them. -/
def U13 (LP LQ : LkP) (w : World) (Ba : Nat) (ma : Lk.M) (Bb : Nat) (mb : Lk.M) (Bo : Nat) (t : TypeId) (cs : Array Value) (X : World) : Prop :=
  ∃ F G, LP w.heap.size F Ba ma X ∧ LQ w.heap.size G Bb mb X ∧ (∀ j, F j → ¬ G j) ∧ Box X Bo t cs ∧ (¬ F Bo ∧ ¬ G Bo) ∧ Below w.heap.size w X
section
variable {LP LQ : LkP} {w : World} {Ba Bb : Nat} {ma mb : Lk.M} {Bo : Nat} {t : TypeId} {cs : Array Value} {X X' : World}
theorem U13.swap (h : U13 LP LQ w Ba ma Bb mb Bo t cs X) : U13 LQ LP w Bb mb Ba ma Bo t cs X := by
  obtain ⟨F, G, h1, h2, h3, h4, h5, h6⟩ := h
  exact ⟨G, F, h2, h1, fun j hg hf => h3 j hf hg, h4, ⟨h5.2, h5.1⟩, h6⟩
theorem Box.kept13 {G : Nat → Prop} (h : Box X Bo t cs) (k : KeepL G X X') (hd : ¬ G Bo) : Box X' Bo t cs := ⟨(k.block Bo h.lt hd).trans h.is⟩
theorem U13.below (U : UK LP) (V : UK LQ) (h : U13 LP LQ w Ba ma Bb mb Bo t cs X) (hb : Below X.heap.size X X') : U13 LP LQ w Ba ma Bb mb Bo t cs X' := by
  obtain ⟨F, G, h1, h2, h3, h4, h5, h6⟩ := h
  have k := keep_below hb
  exact ⟨F, G, U.keep h1 k (fun _ _ h => h), V.keep h2 k (fun _ _ h => h), h3, Box.kept13 h4 k (fun h => h), h5, h6.trans (hb.mono h6.size)⟩
theorem U13.a_says (U : UK LP) (V : UK LQ) {F G : Nat → Prop} {m' : Lk.M} {r : Value} {e : Ending} (h1 : LP w.heap.size F Ba ma X) (h2 : LQ w.heap.size G Bb mb X) (h3 : ∀ j, F j → ¬ G j) (h4 : Box X Bo t cs) (h5 : ¬ F Bo ∧ ¬ G Bo) (h6 : Below w.heap.size w X)
    (hs : SaysP LP w.heap.size F Ba m' r X e X') : e = .returned r ∧ U13 LP LQ w Ba m' Bb mb Bo t cs X' := by
  obtain ⟨rfl, F', hF, hL, hK⟩ := hs
  refine ⟨rfl, F', G, hL, V.keep h2 hK (fun j hg hf => h3 j hf hg), fun j hf hg => ?_, Box.kept13 h4 hK h5.1, ⟨fun hf => ?_, h5.2⟩, h6.trans (hK.below (fun k hk => (U.up h1 k hk).1) h6.size)⟩
  · rcases hF j hf with hf | hf
    · exact h3 j hf hg
    · have := (V.up h2 j hg).2; omega
  · rcases hF Bo hf with hf | hf
    · exact h5.1 hf
    · have := h4.lt; omega
theorem U13.stamp (C : LinkC LP) (V : UK LQ) (ho : ma.Ok) (h : U13 LP LQ w Ba ma Bb mb Bo t cs X) :
    Calls Try.prog 10 #[.pointer (some ⟨Ba, 0, none⟩)] X fun e X' => e = .returned (.tuple #[.int .u16 (Lk.next ma), .int .u16 ma.h.last, .int .u32 (ma.h.seen : Nat)]) ∧ U13 LP LQ w Ba (Lk.stamp ma) Bb mb Bo t cs X' := by
  obtain ⟨F, G, h1, h2, h3, h4, h5, h6⟩ := h
  exact (C.stamp _ F Ba ma ho X h1 h6.size).mono fun e X' h => U13.a_says C.uk V h1 h2 h3 h4 h5 h6 h
theorem U13.hear (C : LinkC LP) (V : UK LQ) (ho : ma.Ok) (now s ack : Int) (seen : Nat) (hn : -9223372036854775808 ≤ now ∧ now ≤ 9223372036854775807) (hs : 0 ≤ s ∧ s ≤ 65535) (ha : 0 ≤ ack ∧ ack ≤ 65535) (hse : seen < 4294967296) (h : U13 LP LQ w Ba ma Bb mb Bo t cs X) :
    Calls Try.prog 12 #[.pointer (some ⟨Ba, 0, none⟩), .int .i64 now, .int .u16 s, .int .u16 ack, .int .u32 (seen : Nat)] X fun e X' => e = .returned (.bool (Lk.fresh ma s)) ∧ U13 LP LQ w Ba (Lk.hear ma now s ack seen) Bb mb Bo t cs X' := by
  obtain ⟨F, G, h1, h2, h3, h4, h5, h6⟩ := h
  exact (C.hear _ F Ba ma ho now s ack seen hn hs ha hse X h1 h6.size).mono fun e X' h => U13.a_says C.uk V h1 h2 h3 h4 h5 h6 h
theorem U13.quiet (C : LinkC LP) (V : UK LQ) (ho : ma.Ok) (now : Int) (hn : -9223372036854775808 ≤ now ∧ now ≤ 9223372036854775807) (hw : now - ma.at_ ≤ 9223372036854775807) (h : U13 LP LQ w Ba ma Bb mb Bo t cs X) :
    Calls Try.prog 14 #[.pointer (some ⟨Ba, 0, none⟩), .int .i64 now] X fun e X' => e = .returned (.int .i64 (max 0 (now - ma.at_))) ∧ U13 LP LQ w Ba ma Bb mb Bo t cs X' := by
  have hT := h
  obtain ⟨F, G, h1, h2, h3, h4, h5, h6⟩ := h
  exact (C.quiet _ F Ba ma ho now hn hw X h1).mono fun e X' h => ⟨h.1, U13.below C.uk V hT h.2⟩
theorem U13.open_ (C : LinkC LP) (V : UK LQ) (ho : ma.Ok) (h : U13 LP LQ w Ba ma Bb mb Bo t cs X) :
    Calls Try.prog 17 #[.pointer (some ⟨Ba, 0, none⟩)] X fun e X' => ∃ A1 c1, e = .returned (.slice A1 ma.op.length c1) ∧ Lies X' X'.heap.size 1 A1 ma.op.length (Lk.u16s ma.op) ∧ U13 LP LQ w Ba ma Bb mb Bo t cs X' := by
  have hT := h
  obtain ⟨F, G, h1, h2, h3, h4, h5, h6⟩ := h
  refine (C.open_ _ F Ba ma ho X h1).mono fun e X' h => ?_
  obtain ⟨A1, c1, he, hl, hb⟩ := h
  exact ⟨A1, c1, he, hl, U13.below C.uk V hT hb⟩
theorem U13.refstamp (U : UK LP) (ho : mb.Ok) (h : U13 LP RefL w Ba ma Bb mb Bo t cs X) :
    Calls Try.prog 11 #[.pointer (some ⟨Bb, 0, none⟩)] X fun e X' => e = .returned (.tuple #[.int .u16 (Lk.next mb), .int .u16 mb.h.last, .int .u32 (mb.h.seen : Nat)]) ∧ U13 LP RefL w Ba ma Bb (Lk.stamp mb) Bo t cs X' := by
  obtain ⟨G, F, h1, h2, h3, h4, h5, h6⟩ := h.swap
  exact (refstamp_any _ G Bb mb ho X h1 h6.size).mono fun e X' h => (U13.a_says ref_uk U h1 h2 h3 h4 h5 h6 h).imp id U13.swap
theorem U13.refhear (U : UK LP) (ho : mb.Ok) (now s ack : Int) (seen : Nat) (hn : -9223372036854775808 ≤ now ∧ now ≤ 9223372036854775807) (hs : 0 ≤ s ∧ s ≤ 65535) (ha : 0 ≤ ack ∧ ack ≤ 65535) (hse : seen < 4294967296) (h : U13 LP RefL w Ba ma Bb mb Bo t cs X) :
    Calls Try.prog 13 #[.pointer (some ⟨Bb, 0, none⟩), .int .i64 now, .int .u16 s, .int .u16 ack, .int .u32 (seen : Nat)] X fun e X' => e = .returned (.bool (Lk.fresh mb s)) ∧ U13 LP RefL w Ba ma Bb (Lk.hear mb now s ack seen) Bo t cs X' := by
  obtain ⟨G, F, h1, h2, h3, h4, h5, h6⟩ := h.swap
  exact (refhear_any _ G Bb mb ho now s ack seen hn hs ha hse X h1 h6.size).mono fun e X' h => (U13.a_says ref_uk U h1 h2 h3 h4 h5 h6 h).imp id U13.swap
theorem U13.refquiet (ho : mb.Ok) (now : Int) (hn : -9223372036854775808 ≤ now ∧ now ≤ 9223372036854775807) (h : U13 LP RefL w Ba ma Bb mb Bo t cs X) :
    Calls Try.prog 15 #[.pointer (some ⟨Bb, 0, none⟩), .int .i64 now] X fun e X' => e = .returned (.int .i64 (Lk.quiet mb now)) ∧ X = X' := by
  obtain ⟨F, G, h1, h2, h3, h4, h5, h6⟩ := h
  exact refquiet_any _ G Bb mb ho now hn X h2
theorem U13.block (h : U13 LP LQ w Ba ma Bb mb Bo t cs X) : Box X Bo t cs := by
  obtain ⟨F, G, h1, h2, h3, h4, h5, h6⟩ := h
  exact h4
theorem U13.down (h : U13 LP LQ w Ba ma Bb mb Bo t cs X) : Below w.heap.size w X := by
  obtain ⟨F, G, h1, h2, h3, h4, h5, h6⟩ := h
  exact h6
/-- A block is made, and laid down again. -/
theorem U13.of (U : UK LP) (V : UK LQ) {A : Option Addr} {n c : Nat} {xs : List Value} (h : T13 LP LQ w Ba ma Bb mb A n c xs X) (hb : Below X.heap.size X X') (hB : Box X' Bo t cs) (hBo : X.heap.size ≤ Bo) : U13 LP LQ w Ba ma Bb mb Bo t cs X' := by
  obtain ⟨F, G, h1, h2, h3, h4, h5, h6⟩ := h
  have k := keep_below hb
  exact ⟨F, G, U.keep h1 k (fun _ _ h => h), V.keep h2 k (fun _ _ h => h), h3, hB, ⟨fun hf => by have := (U.up h1 _ hf).2; omega, fun hf => by have := (V.up h2 _ hf).2; omega⟩, h6.trans (hb.mono h6.size)⟩
theorem U13.to (h : U13 LP LQ w Ba ma Bb mb Bo t cs X) : T13 LP LQ w Ba ma Bb mb none 0 0 [] X := by
  obtain ⟨F, G, h1, h2, h3, h4, h5, h6⟩ := h
  exact ⟨F, G, h1, h2, h3, Que.nil _ _, fun g hg => (by cases hg), h6⟩
theorem U13.openB (C : LinkC LP) (ho : ma.Ok) (h : U13 LP LQ w Ba ma Bb mb Bo t cs X) :
    Calls Try.prog 17 #[.pointer (some ⟨Ba, 0, none⟩)] X fun e X' => ∃ A1 c1, e = .returned (.slice A1 ma.op.length c1) ∧ Lies X' X'.heap.size 1 A1 ma.op.length (Lk.u16s ma.op) ∧ Below X.heap.size X X' := by
  obtain ⟨F, G, h1, h2, h3, h4, h5, h6⟩ := h
  exact C.open_ _ F Ba ma ho X h1
theorem U13.refbox (h : U13 LP RefL w Ba ma Bb mb Bo t cs X) : ∃ A1 c1, Box X Bb 40 (mb.h.lcells ⟨mb.ser, mb.at_, .slice A1 mb.op.length c1⟩) ∧ Lies X X.heap.size 1 A1 mb.op.length (Lk.u16s mb.op) := by
  obtain ⟨F, G, h1, h2, h3, h4, h5, h6⟩ := h
  obtain ⟨A1, c1, hB, hQ, _⟩ := h2.box
  exact ⟨A1, c1, hB, hQ.lies⟩
theorem U13.cells {a b c d f : Value} (h : U13 LP RefL w Ba ma Bb mb Bo t #[a, b, c, d, f] X) : X.cell? ⟨Bo, 1, none⟩ = some b ∧ X.cell? ⟨Bo, 2, none⟩ = some c ∧ X.cell? ⟨Bo, 3, none⟩ = some d ∧ X.cell? ⟨Bo, 4, none⟩ = some f :=
  ⟨h.block.cell 1, h.block.cell 2, h.block.cell 3, h.block.cell 4⟩
theorem U13.drew (U : UK LP) (V : UK LQ) (h : U13 LP LQ w Ba ma Bb mb Bo t cs X) : U13 LP LQ w Ba ma Bb mb Bo t cs X.drew := U13.below U V h (Below.drew (Below.refl _ _))
end
end Go.Proofs.Ythojjpoadabehaa
