/-
Several texts in one: Rn Qi Qj.
-/
import Derived.Test.YtghomofakpjglaaWi7
namespace Sx
open Go Im
set_option linter.unusedVariables false
theorem str_append (a b : List Int) : strOfNums (a ++ b) = strOfNums a ++ strOfNums b := by
  apply ByteArray.ext
  simp [strOfNums, ByteArray.data_append]
theorem str_drop (l : List Int) (n : Nat) : (strOfNums l).extract n (strOfNums l).size = strOfNums (l.drop n) := by
  apply ByteArray.ext
  rw [strOfNums_size]
  simp [strOfNums, ByteArray.data_extract, List.map_drop]
  exact List.take_of_length_le (by simp)
theorem str_at {l : List Int} (hB : IsBytes l) (k : Nat) (h : k < l.length) (h' : k < (strOfNums l).size) : (((strOfNums l)[k]'h').toNat : Int) = l.getD k 0 := by
  have hb := hB.get k
  have e : (strOfNums l)[k]'h' = UInt8.ofNat (l.getD k 0).toNat := by
    show (strOfNums l).data[k]'h' = _
    simp [strOfNums, List.getD_eq_getElem?_getD, h]
  rw [e]
  have : (UInt8.ofNat (l.getD k 0).toNat).toNat = (l.getD k 0).toNat := by rw [UInt8.toNat_ofNat']; omega
  rw [this]; omega
theorem str_inj {a b : List Int} (ha : IsBytes a) (hb : IsBytes b) (h : strOfNums a = strOfNums b) : a = b := by
  have hl : a.length = b.length := by rw [← strOfNums_size, ← strOfNums_size, h]
  refine List.ext_getElem hl fun i h1 h2 => ?_
  have e1 := str_at ha i h1 (by rw [strOfNums_size]; exact h1)
  have e2 := str_at hb i h2 (by rw [strOfNums_size]; exact h2)
  have e3 : ((strOfNums a)[i]'(by rw [strOfNums_size]; exact h1)).toNat = ((strOfNums b)[i]'(by rw [strOfNums_size]; exact h2)).toNat := by congr 1; congr 1
  rw [List.getD_eq_getElem?_getD, List.getElem?_eq_getElem h1] at e1
  rw [List.getD_eq_getElem?_getD, List.getElem?_eq_getElem h2] at e2
  simp only [Option.getD_some] at e1 e2
  rw [← e1, ← e2, e3]
theorem str_toList (l : List Int) : (strOfNums l).toList = (strOfNums l).data.toList := Lib.toList_data _
theorem str_eq_iff {a b : List Int} (ha : IsBytes a) (hb : IsBytes b) : ((strOfNums a).toList == (strOfNums b).toList) = decide (a = b) := by
  by_cases h : a = b
  · subst h; simp
  · have : ¬ (strOfNums a).toList = (strOfNums b).toList := fun e => h (str_inj ha hb (ByteArray.ext (by rw [str_toList, str_toList] at e; exact Array.toList_inj.1 e)))
    rw [decide_eq_false h]; simpa using this
theorem val_shift (f : Nat → Int) : ∀ n, val f (n + 1) = f 0 + 256 * val (fun k => f (k + 1)) n
  | 0 => by simp [val]
  | n + 1 => by
    show val f (n + 1) + f (n + 1) * 2 ^ (8 * (n + 1)) = _
    rw [val_shift f n]
    show _ = f 0 + 256 * (val (fun k => f (k + 1)) n + f (n + 1) * 2 ^ (8 * n))
    have e : (2 : Int) ^ (8 * (n + 1)) = 2 ^ (8 * n) * 256 := by rw [show 8 * (n + 1) = 8 * n + 8 by omega, Int.pow_add]; rfl
    rw [e]
    generalize (2 : Int) ^ (8 * n) = p
    grind
theorem or_low (v x : Int) (hv : 0 ≤ v ∧ v < 2 ^ 56) (hx : 0 ≤ x ∧ x ≤ 255) : bits .or .u64 (v * 256) x = v * 256 + x := by
  obtain ⟨V, rfl⟩ := Int.eq_ofNat_of_zero_le hv.1
  obtain ⟨X, rfl⟩ := Int.eq_ofNat_of_zero_le hx.1
  have e : (V : Int) * 256 = ((256 * V : Nat) : Int) := by omega
  have hX : X < 2 ^ 8 := by omega
  have h2 : 256 * V ||| X = 256 * V + X := (Nat.two_pow_add_eq_or_of_lt hX V).symm
  rw [e, u64_or_nat _ _ (by omega) (by omega), h2]
  omega
/-- What a reader has left: none behind a fault. -/
def num (n : Nat) (o : Option (List Int)) : Int := ((o.bind (rdn n)).map (·.1)).getD 0
def rest (n : Nat) (o : Option (List Int)) : Option (List Int) := (o.bind (rdn n)).map (·.2)
theorem num_some {n : Nat} {l m : List Int} {v : Int} (h : rdn n l = some (v, m)) : num n (some l) = v ∧ rest n (some l) = some m := by unfold num rest; rw [Option.bind_some, h]; exact ⟨rfl, rfl⟩
theorem num_none {n : Nat} {l : List Int} (h : rdn n l = none) : num n (some l) = 0 ∧ rest n (some l) = none := by unfold num rest; rw [Option.bind_some, h]; exact ⟨rfl, rfl⟩
theorem num_lt {n : Nat} {o : Option (List Int)} (hB : ∀ l, o = some l → IsBytes l) : 0 ≤ num n o ∧ num n o < 2 ^ (8 * n) := by
  have hp : (0 : Int) < 2 ^ (8 * n) := Int.pow_pos (by decide)
  match o with
  | none => exact ⟨Int.le_refl _, hp⟩
  | some l =>
    cases h : rdn n l with
    | none => rw [(num_none h).1]; exact ⟨Int.le_refl _, hp⟩
    | some q =>
      have h' : rdn n l = some (q.1, q.2) := h
      rw [(num_some h').1]
      obtain ⟨_, h1, h2, _⟩ := rdn_inv (hB l rfl) h'
      exact ⟨h1, h2⟩
theorem rest_bytes {n : Nat} {o : Option (List Int)} (hB : ∀ l, o = some l → IsBytes l) : ∀ l, rest n o = some l → IsBytes l := fun l h => by
  match o with
  | none => cases h
  | some m =>
    cases hr : rdn n m with
    | none => rw [(num_none hr).2] at h; cases h
    | some q =>
      have hr' : rdn n m = some (q.1, q.2) := hr
      rw [(num_some hr').2] at h
      injection h with h
      subst h
      exact (rdn_inv (hB m rfl) hr').2.2.2
end Sx
namespace Go.Proofs.Ytghomofakpjglaa
open Go.RowKit Go.Shelf
set_option linter.unusedVariables false
set_option linter.unusedSimpArgs false

/-- Everything stays but block B. -/
structure Sol (B : Nat) (w w' : World) : Prop where
  os : w'.os = w.os
  tape : w'.tape = w.tape
  output : w'.output = w.output
  size : w.heap.size ≤ w'.heap.size
  block : ∀ k, k < w.heap.size → k ≠ B → w'.heap[k]? = w.heap[k]?
section
variable {B b : Nat} {w w' w'' : World}
theorem Sol.refl (B : Nat) (w : World) : Sol B w w := ⟨rfl, rfl, rfl, Nat.le_refl _, fun _ _ _ => rfl⟩
theorem Sol.trans (h : Sol B w w') (k : Sol B w' w'') : Sol B w w'' := ⟨k.os.trans h.os, k.tape.trans h.tape, k.output.trans h.output, Nat.le_trans h.size k.size, fun i hi hne => (k.block i (Nat.lt_of_lt_of_le hi h.size) hne).trans (h.block i hi hne)⟩
theorem Sol.put (h : Sol B w w') (i : Nat) (u : Value) : Sol B w (w'.setCell ⟨B, i, none⟩ u) := by
  have hz := (Below.refl 0 w').setCell (p := ⟨B, i, none⟩) (Nat.zero_le _) u
  exact h.trans ⟨hz.os, hz.tape, hz.output, hz.size, fun k hk hne => heap_setCell_other w' ⟨B, i, none⟩ k u hne⟩
theorem Sol.call (h : Sol B w w') (hb : Below w'.heap.size w' w'') : Sol B w w'' := h.trans ⟨hb.os, hb.tape, hb.output, hb.size, fun k hk _ => hb.block k hk⟩
theorem Sol.fresh (h : Sol B w w') {p : Addr} (hp : w.heap.size ≤ p.block) (u : Value) : Sol B w (w'.setCell p u) := by
  have hz := (Below.refl 0 w').setCell (p := p) (Nat.zero_le _) u
  exact ⟨hz.os.trans h.os, hz.tape.trans h.tape, hz.output.trans h.output, Nat.le_trans h.size hz.size, fun k hk hne => (heap_setCell_other w' p k u (by omega)).trans (h.block k hk hne)⟩
theorem Sol.below (h : Sol B w w') (hb : b ≤ B) (hs : b ≤ w.heap.size) : Below b w w' := ⟨h.os, h.tape, h.output, h.size, fun i hi => h.block i (by omega) (by omega)⟩
theorem Box.sol {g : Nat} {t : TypeId} {cs : Array Value} (h : Box w g t cs) (k : Sol B w w') (hne : g ≠ B) : Box w' g t cs := ⟨(k.block g h.lt hne).trans h.is⟩
end
/-- The document's reader: what is left of its bytes, or that it is bad. -/
def RIs (w : World) (B : Nat) : Option (List Int) → Prop
  | none => ∃ s : ByteArray, Box w B 91 #[.string s, .bool true]
  | some l => Box w B 91 #[.string (strOfNums l), .bool false]
section
variable {B : Nat} {w w' : World} {o : Option (List Int)}
theorem RIs.box (h : RIs w B o) : ∃ s b, Box w B 91 #[.string s, .bool b] := by
  match o with
  | none => obtain ⟨s, h⟩ := h; exact ⟨s, _, h⟩
  | some l => exact ⟨_, _, h⟩
theorem RIs.lt (h : RIs w B o) : B < w.heap.size := by obtain ⟨s, b, h⟩ := h.box; exact h.lt
theorem RIs.stays (h : RIs w B o) (hk : w'.heap[B]? = w.heap[B]?) : RIs w' B o := by
  match o with
  | none => obtain ⟨s, h⟩ := h; exact ⟨s, ⟨hk.trans h.is⟩⟩
  | some l => exact (⟨hk.trans (show Box w B _ _ from h).is⟩ : Box w' B 91 #[.string (strOfNums l), .bool false])
theorem RIs.below {b : Nat} (h : RIs w B o) (hb : Below b w w') (hB : B < b) : RIs w' B o := h.stays (hb.block B hB)
theorem RIs.alloc (h : RIs w B o) (x : Obj) : RIs (w.alloc x) B o := h.below (one_below w x) h.lt
theorem RIs.apart {g : Nat} {t : TypeId} {cs : Array Value} (h : RIs w B o) (hg : Box w g t cs) (ht : t ≠ 91) : g ≠ B := by
  obtain ⟨s, b, h⟩ := h.box
  exact Box.apart hg h ht
theorem RIs.off {p : Addr} {t : TypeId} {cs : Array Value} (h : RIs w B o) (hg : Box w p.block t cs) (ht : t ≠ 91) (u : Value) : RIs (w.setCell p u) B o :=
  h.stays (heap_setCell_other w p B u (fun e => h.apart hg ht e.symm))
theorem RIs.bad (h : RIs w B o) : RIs (w.setCell ⟨B, 1, none⟩ (.bool true)) B none := by
  obtain ⟨s, b, h⟩ := h.box
  exact ⟨s, h.put 1 _⟩
end

theorem below_gone {B : Nat} {w0 w w' : World} {row : Option Nat} (h : Below B w0 w) (hg : w.grownBy w' row) (hr : ∀ r, row = some r → B ≤ r) (hB : B ≤ w0.heap.size) : Below B w0 w' :=
  ⟨hg.os.trans h.os, hg.tape.trans h.tape, hg.output.trans h.output, Nat.le_trans h.size hg.size, fun i hi => (hg.block i (Nat.lt_of_lt_of_le hi (Nat.le_trans hB h.size)) (fun e => by have := hr i e.symm; omega)).trans (h.block i hi)⟩
theorem own_at {w : World} {base : Nat} {e : TypeId} {size n : Nat} {v : Value} {xs : List Value} (h : w.ownsRow base e size v n xs) : ∀ r, v.ownBlock = some r → base ≤ r := fun r hr => by
  obtain ⟨_, ⟨rfl, _⟩ | ⟨g, cap, cur, rfl, hbg, _⟩⟩ := h
  · cases hr
  · have e' : g = r := by injection hr
    omega
set_option maxRecDepth 100000 in
set_option maxHeartbeats 4000000 in
theorem rnum_any (n : Nat) (z : Int) (hz : z = n) (o : Option (List Int)) (B : Nat) (w : World) (hn : 1 ≤ n ∧ n ≤ 8) (hB : ∀ l, o = some l → Im.IsBytes l) (h : RIs w B o) :
    Calls Try.prog 48 #[.pointer (some ⟨B, 0, none⟩), .int .i64 z] w fun e w' => e = .returned (.int .u64 (Sx.num n o)) ∧ RIs w' B (Sx.rest n o) ∧ Sol B w w' := by
  match o with
  | none =>
    obtain ⟨s, hs⟩ := h
    have c0 := hs.cell 0
    have c1 := hs.cell 1
    have f0 := hs.free 0
    have f1 := hs.free 1
    have HB := Lib.hid hs
    clear hs hB
    go_enter Try.func48, Try.ntmps48
    go_wp2
    go_ret
    exact ⟨rfl, ⟨_, (HB.out.put 1 (.bool true)).put 0 (.string ⟨#[]⟩)⟩, ((Sol.refl B w).put 1 _).put 0 _⟩
  | some l =>
    have hs : Box w B 91 #[.string (strOfNums l), .bool false] := h
    have c0 := hs.cell 0
    have c1 := hs.cell 1
    have f0 := hs.free 0
    have f1 := hs.free 1
    have HB := Lib.hid hs
    have hsz := strOfNums_size l
    clear h hs
    by_cases hlt : l.length < n
    · have hr := Im.rdn_few hlt
      obtain ⟨e1, e2⟩ := Sx.num_none hr
      rw [e1, e2]
      have hlz : (l.length : Int) < z := by omega
      generalize strOfNums l = s at *
      clear e1 e2 hr hB
      go_enter Try.func48, Try.ntmps48
      go_wp2
      go_ret
      exact ⟨rfl, ⟨_, (HB.out.put 1 (.bool true)).put 0 (.string ⟨#[]⟩)⟩, ((Sol.refl B w).put 1 _).put 0 _⟩
    · have hlz : ¬ (l.length : Int) < z := by omega
      have hr : Im.rdn n l = some (Im.val (fun k => l.getD k 0) n, l.drop n) := by unfold Im.rdn; rw [if_pos (by omega)]
      obtain ⟨e1, e2⟩ := Sx.num_some hr
      rw [e1, e2]
      have hby := hB l rfl
      have HX := Lib.hid (Sx.str_drop l n)
      have HAT := Lib.hid (fun k (hk : k < l.length) h' => Sx.str_at hby k hk h')
      have HGET := Lib.hid (fun k => hby.get k)
      generalize strOfNums l = s at *
      clear e1 e2 hr hB
      go_enter Try.func48, Try.ntmps48
      go_wp2
      go_loopw [5, 6] (fun v i wr => ∃ m : Nat, m ≤ n ∧ i = .int .i64 ((m : Int) - 1) ∧ v = .int .u64 (Im.val (fun k => l.getD (m + k) 0) (n - m)) ∧ w = wr) (fun _ i _ => (intOf i + 1).toNat)
      case atStart => exact ⟨n, by omega, by subst hz; rfl, by rw [Nat.sub_self]; rfl, rfl⟩
      case round =>
        obtain ⟨m, hm, rfl, rfl, rfl⟩ := hrel
        by_cases h0 : 0 < m
        · obtain ⟨q, rfl⟩ : ∃ q, m = q + 1 := ⟨m - 1, by omega⟩
          have hge : (0 : Int) ≤ ((q + 1 : Nat) : Int) - 1 := by omega
          have hvl := Im.val_lt (fun k => l.getD (q + 1 + k) 0) (fun k => HGET.out _) (n - (q + 1))
          have hp : (2 : Int) ^ (8 * (n - (q + 1))) ≤ 2 ^ 56 := by
            have := Nat.pow_le_pow_right (show 0 < 2 by decide) (show 8 * (n - (q + 1)) ≤ 56 by omega)
            exact_mod_cast this
          have hq8 : q < l.length := by omega
          have hx := HAT.out q hq8 (by omega)
          have hxb := HGET.out q
          have hnext : Im.val (fun k => l.getD (q + k) 0) (n - q) = Im.val (fun k => l.getD (q + 1 + k) 0) (n - (q + 1)) * 256 + l.getD q 0 := by
            rw [show n - q = (n - (q + 1)) + 1 by omega, Sx.val_shift]
            rw [show (fun k => l.getD (q + (k + 1)) 0) = fun k => l.getD (q + 1 + k) 0 from funext fun k => by rw [show q + (k + 1) = q + 1 + k by omega]]
            simp only [Nat.add_zero]
            omega
          have HN := Lib.hid hnext
          generalize Im.val (fun k => l.getD (q + 1 + k) 0) (n - (q + 1)) = v at *
          generalize l.getD q 0 = x at *
          have hq1 : ((q + 1 : Nat) : Int) - 1 = q := by omega
          have hor := Sx.or_low v x ⟨hvl.1, by omega⟩ hxb
          have hwv : IntKind.u64.wrap (v * 256) = v * 256 := by rw [IntKind.wrap_u64]; omega
          rw [hq1] at hge ⊢
          clear hnext hp hlz c1 f1
          go_wp2
          go_roundw
          case rel => exact ⟨q, by omega, rfl, by rw [HN.out], by first | rfl | trivial⟩
          case measure => simp [intOf] <;> omega
        · obtain rfl : m = 0 := by omega
          have hx2 : s.extract n l.length = strOfNums (l.drop n) := by rw [← hsz]; exact HX.out
          have hzn : z.toNat = n := by omega
          have hz0 : 0 ≤ z := by omega
          have hz1 : z ≤ (s.size : Int) := by omega
          clear HAT HGET
          go_wp2
          go_ret
          refine ⟨?_, HB.out.put 0 (.string (strOfNums (l.drop n))), (Sol.refl B w).put 0 _⟩
          show Ending.returned (.int .u64 (Im.val (fun k => l.getD (0 + k) 0) (n - 0))) = _
          rw [Nat.sub_zero, Im.val_congr (g := fun k => l.getD k 0) n (fun k _ => by rw [Nat.zero_add])]

set_option maxRecDepth 100000 in
theorem rint_any (n : Nat) (z : Int) (hz : z = n) (o : Option (List Int)) (B : Nat) (w : World) (hn : 1 ≤ n ∧ n ≤ 4) (hB : ∀ l, o = some l → Im.IsBytes l) (h : RIs w B o) :
    Calls Try.prog 47 #[.pointer (some ⟨B, 0, none⟩), .int .i64 z] w fun e w' => e = .returned (.int .i64 (Sx.num n o)) ∧ RIs w' B (Sx.rest n o) ∧ Sol B w w' := by
  subst hz
  have c1 := Lib.hid (rnum_any n n rfl o B w (by omega) hB h)
  have hl := Sx.num_lt (n := n) hB
  have hp : (2 : Int) ^ (8 * n) ≤ 2 ^ 32 := by
    have := Nat.pow_le_pow_right (show 0 < 2 by decide) (show 8 * n ≤ 32 by omega)
    exact_mod_cast this
  generalize Sx.num n o = v at *
  have hw : IntKind.i64.wrap v = v := by rw [IntKind.wrap_i64]; omega
  clear hB h hl hp
  go_enter Try.func47, Try.ntmps47
  go_wp2_with (go_at_call 48; ((with_reducible refine (c1.out).mono ?_); rintro e w1 ⟨rfl, h1, h2⟩; have H1 := Lib.hid h1; have H2 := Lib.hid h2; clear h1 h2))
  go_ret
  exact ⟨rfl, H1.out, H2.out⟩
def Sx.ended : Option (List Int) → Bool
  | some [] => true
  | _ => false
set_option maxRecDepth 100000 in
theorem rend_any (o : Option (List Int)) (B : Nat) (w : World) (hB : ∀ l, o = some l → Im.IsBytes l) (h : RIs w B o) :
    Calls Try.prog 50 #[.pointer (some ⟨B, 0, none⟩)] w fun e w' => e = .returned (.bool (Sx.ended o)) ∧ w = w' := by
  match o with
  | none =>
    obtain ⟨s, hs⟩ := h
    have c0 := hs.cell 0
    have c1 := hs.cell 1
    clear hs hB
    go_enter Try.func50, Try.ntmps50
    go_wp2
    go_ret
    exact ⟨rfl, rfl⟩
  | some l =>
    have hs : Box w B 91 #[.string (strOfNums l), .bool false] := h
    have c0 := hs.cell 0
    have c1 := hs.cell 1
    have he : ((strOfNums l).toList == (⟨#[]⟩ : ByteArray).toList) = Sx.ended (some l) := by
      rw [show (⟨#[]⟩ : ByteArray) = strOfNums [] from rfl, Sx.str_eq_iff (hB l rfl) Im.IsBytes.nil]
      cases l <;> rfl
    have he2 : (strOfNums l).toList.isEmpty = Sx.ended (some l) := by
      rw [← he]
      rw [show (⟨#[]⟩ : ByteArray).toList = [] from Lib.toList_data _]
      cases (strOfNums l).toList <;> rfl
    generalize Sx.ended (some l) = r at *
    generalize strOfNums l = s at *
    clear hs h hB
    go_enter Try.func50, Try.ntmps50
    go_wp2
    go_ret
    exact ⟨rfl, rfl⟩

set_option maxRecDepth 100000 in
set_option maxHeartbeats 4000000 in
theorem refput_num (size : Nat) (z v : Int) (hz : z = size) (w : World) (hs : size ≤ 8) (hv : 0 ≤ v ∧ v ≤ 18446744073709551615) :
    Calls Try.prog 43 #[.int .u64 v, .int .i64 z] w fun e w' => e = .returned (.string (strOfNums (Im.bytesOf size v))) ∧ Below w.heap.size w w' := by
  subst hz
  go_enter Try.func43, Try.ntmps43
  go_wp2
  go_loopw [5, 6] (fun l i wr => ∃ k : Nat, k ≤ size ∧ i = .int .i64 k ∧ wr.ownsRow w.heap.size 5 1 l k (Im.u8s (Im.bytesOf k v)) ∧ Below w.heap.size w wr) (fun _ i _ => size - (intOf i).toNat)
  case atStart => exact ⟨0, by omega, rfl, ⟨rfl, .inl ⟨rfl, rfl⟩⟩, Below.refl _ _⟩
  case round =>
    obtain ⟨k, hk, rfl, hO, hb⟩ := hrel
    obtain ⟨A, c, rfl⟩ := owned_slice hO
    by_cases hlt : k < size
    · have hk8 : (k : Int) < size := by omega
      have h8 : IntKind.i64.wrap (8 * (k : Int)) = 8 * k := by rw [IntKind.wrap_i64]; omega
      have h9 : IntKind.u64.wrap (8 * (k : Int)) = 8 * k := by rw [IntKind.wrap_u64]; omega
      have hsn : Im.u8s (Im.bytesOf (k + 1) v) = Im.u8s (Im.bytesOf k v) ++ Im.u8s [v / 2 ^ (8 * k) % 256] := by rw [← Im.u8s_append]; rfl
      have HSN := Lib.hid hsn
      have HO := Lib.hid hO
      have HB := Lib.hid hb
      have sz := hb.size
      obtain ⟨i0, hi0, hz0, hz1, hz2⟩ := u8_parts
      have hI := Lib.hid hi0
      have hZ := Lib.hid hz0
      have hS := Lib.hid hz1
      have hY := Lib.hid hz2
      clear hsn hO hb hi0 hz0 hz1 hz2
      go_wp2_with ((with_reducible refine append_gate (t := 36) (e := 5) (size := 1) (bytes := 1) rfl rfl Try.underlying36 hI.out hZ.out hS.out hY.out rfl (by decide) ?_); refine Appends.mk (base := w.heap.size) (n := k) (xs := Im.u8s (Im.bytesOf k v)) rfl (HO.out.alloc _) (lies_byte wr (v / 2 ^ (8 * k) % 256)) (Im.u8s_one _) (by unfold maxLen; omega) (by omega) (by simp; omega) ?_; intro A3 c3 w3 own3 hg3; have O3 := Lib.hid own3; have K3 := Lib.hid (below_gone (HB.out.alloc sz _) hg3 (own_at (HO.out)) (Nat.le_refl _)); clear own3 hg3)
      go_roundw
      case rel => exact ⟨k + 1, by omega, by go_num, by rw [HSN.out]; exact O3.out, K3.out⟩
      case measure => simp [intOf]; omega
    · have hk8 : ¬ (k : Int) < size := by omega
      obtain rfl : k = size := by omega
      have hcv := conv_bytes (Im.bytesOf k v) k A c wr _ (Im.bytesOf_len _ _) (Lies.owned hO)
      have HB := Lib.hid hb
      clear hO hb
      go_wp2
      go_ret
      exact ⟨rfl, HB.out⟩
end Go.Proofs.Ytghomofakpjglaa
namespace Go.Proofs.Ytghomofakpjglaa
open Go.RowKit Go.Shelf
set_option linter.unusedVariables false
set_option linter.unusedSimpArgs false

/-- Two strings, one behind the other: their sum has a name. -/
theorem str_sum {a b c : List Int} {x y : ByteArray} (hx : x = strOfNums a) (hy : y = strOfNums b) (hc : a ++ b = c) (hl : a.length + b.length ≤ 1000000) : ∃ u : ByteArray, u = strOfNums c ∧ x ++ y = u ∧ ¬ 9223372036854775807 < x.size + y.size := by
  subst hx hy hc
  exact ⟨_, rfl, (Sx.str_append a b).symm, by rw [strOfNums_size, strOfNums_size]; omega⟩
theorem refour_any (x : Int) (w : World) (hx : -2147483648 ≤ x ∧ x ≤ 2147483647) :
    Calls Try.prog 44 #[.int .i32 x] w fun e w' => e = .returned (.string (strOfNums (Im.bytesOf 4 (IntKind.u64.wrap x)))) ∧ Below w.heap.size w w' := by
  have e : Im.bytesOf 4 (IntKind.u64.wrap x) = Im.bytesOf 4 (x % 4294967296) := by
    have e : ∀ v : Int, Im.bytesOf 4 v = [v % 256, v / 256 % 256, v / 65536 % 256, v / 16777216 % 256] := fun v => by simp [Im.bytesOf]
    rw [e, e, wrap_u64']
    simp only [List.cons.injEq, and_true]
    omega
  rw [e]
  have hw : IntKind.u32.wrap x = x % 4294967296 := by simp [IntKind.wrap, IntKind.bits, IntKind.signed]
  have hw2 : IntKind.u64.wrap (x % 4294967296) = x % 4294967296 := by rw [wrap_u64']; omega
  have h0 : 0 ≤ x % 4294967296 ∧ x % 4294967296 ≤ 18446744073709551615 := by omega
  have c1 := fun X => Lib.hid (refput_num 4 4 (x % 4294967296) rfl X (by decide) h0)
  generalize x % 4294967296 = y at *
  go_enter Try.func44, Try.ntmps44
  go_wp2_with (go_at_call 43; ((with_reducible refine ((c1 _).out).mono ?_); rintro r w3 ⟨rfl, hb⟩; have K1 := Lib.hid hb; clear hb))
  go_ret
  exact ⟨rfl, K1.out⟩
theorem Im.bytes11 : Im.bytesOf 1 1 = [1] := by decide
theorem Im.bytes10 : Im.bytesOf 1 0 = [0] := by decide
theorem Im.ship_on (x y vx vy cool score : Int) : Im.ship ⟨true, x, y, vx, vy, cool, score⟩ = [1] ++ (Im.bytesOf 4 (IntKind.u64.wrap x) ++ (Im.bytesOf 4 (IntKind.u64.wrap y) ++ (Im.bytesOf 4 (IntKind.u64.wrap vx) ++ (Im.bytesOf 4 (IntKind.u64.wrap vy) ++ (Im.bytesOf 1 cool ++ Im.bytesOf 4 score))))) := by
  unfold Im.ship
  rw [if_pos rfl, Im.flight_parts, Im.bytes11]
  simp [Im.parts']
theorem Im.shot_is (o x y vx vy l : Int) : Im.shot ⟨o, x, y, vx, vy, l⟩ = Im.bytesOf 1 o ++ (Im.bytesOf 4 (IntKind.u64.wrap x) ++ (Im.bytesOf 4 (IntKind.u64.wrap y) ++ (Im.bytesOf 4 (IntKind.u64.wrap vx) ++ (Im.bytesOf 4 (IntKind.u64.wrap vy) ++ Im.bytesOf 1 l)))) := by
  unfold Im.shot
  rw [Im.flight_parts]
  simp [Im.parts']

set_option maxRecDepth 100000 in
set_option maxHeartbeats 8000000 in
theorem refputst_yes (g : Gm.G) (r : Ros.R) (A : Option Addr) (n c : Nat) (w : World) (hok : Im.Ok g r) (hd : 0 ≤ g.dice ∧ g.dice ≤ 18446744073709551615) (hn : n = g.shots.length) (hL : Lies w w.heap.size 6 A n (Gm.shotCells g.shots)) :
    Calls Try.prog 16 #[.agg (Im.cells g (.slice A n c) r)] w fun e w' => e = .returned (.string (strOfNums (Im.put g r))) ∧ Below w.heap.size w w' := by
  obtain ⟨hgo, hro, _⟩ := hok
  obtain ⟨f0, f1, hn32, hships, hshots⟩ := hgo
  obtain ⟨⟨v0, v1⟩, hseats, _⟩ := Ros.ok_iff.1 hro
  rw [← hn] at hn32
  have HN := Lib.hid hn
  have P0 := Lib.hid (Box.made w 35 (Im.cells g (.slice A n c) r))
  have K0 := Lib.hid (one_below w (.cells (Im.cells g (.slice A n c) r) 35))
  have hr0 := Lib.hid ((hL.below K0.out).wider K0.out.size)
  have hr1 := Lib.hid hL
  have hwf : IntKind.u64.wrap g.frame = g.frame := by rw [IntKind.wrap_u64]; omega
  have hwn : IntKind.u64.wrap (n : Int) = n := by rw [IntKind.wrap_u64]; omega
  have hwv : IntKind.u64.wrap r.version = r.version := by rw [IntKind.wrap_u64]; omega
  have f2 : g.frame ≤ 18446744073709551615 := by omega
  have HP := Lib.hid (show Im.put g r = Im.bytesOf 4 g.frame ++ Im.bytesOf 8 g.dice ++ Im.ships g.ship 8 ++ Im.bytesOf 1 (n : Int) ++ Im.shots g.shots ++ Im.bytesOf 4 r.version ++ Im.seats r 8 by unfold Im.put; rw [← hn]; simp only [List.append_assoc])
  clear hL hn hro
  go_enter Try.func16, Try.ntmps16
  go_upto_region 1 with fail
  generalize hW0 : w.alloc (.cells (Im.cells g (.slice A n c) r) 35) = W0 at *
  clear hW0
  have z0 : ∀ q : Ext W0.heap.size W0, q.w.cell? ⟨w.heap.size, 0, none⟩ = some (.int .i64 g.frame) := fun q => q.cell P0.out.lt ((P0.out.cell 0).trans ((Im.cells_g _ _ _ 0 (by omega)).trans (Gm.cells_0 _ _)))
  have z1 : ∀ q : Ext W0.heap.size W0, q.w.cell? ⟨w.heap.size, 1, none⟩ = some (.int .u64 g.dice) := fun q => q.cell P0.out.lt ((P0.out.cell 1).trans ((Im.cells_g _ _ _ 1 (by omega)).trans (Gm.cells_1 _ _)))
  obtain ⟨s1, hs1⟩ : ∃ s, s = strOfNums (Im.bytesOf 4 g.frame) := ⟨_, rfl⟩
  obtain ⟨s2, hs2⟩ : ∃ s, s = strOfNums (Im.bytesOf 8 g.dice) := ⟨_, rfl⟩
  obtain ⟨s3, hs3, ha3, hc3⟩ := str_sum hs1 hs2 rfl (by rw [Im.bytesOf_len, Im.bytesOf_len]; omega)
  have cn1 := fun X => Lib.hid (refput_num 4 4 g.frame rfl X (by decide) ⟨f0, f2⟩)
  have cn2 := fun X => Lib.hid (refput_num 8 8 g.dice rfl X (by decide) hd)
  rw [← hs1] at cn1
  rw [← hs2] at cn2
  have HS3 := Lib.hid hs3
  clear hs1 hs2 hs3
  refine wp_region_ext W0.heap.size W0 (by kernel_rfl) (by kernel_rfl) (Below.refl _ _) ?_
  repeat (first | go_big_quiet_step ((go_at_call 43; first | with_reducible exact Calls.ext_of (Nat.le_refl _) (cn1 _).out | with_reducible exact Calls.ext_of (Nat.le_refl _) (cn2 _).out)))
  refine wpQuiet_nil ?_
  intro _ hw'
  obtain ⟨q0, hw''⟩ := hw'
  subst hw''
  have K1 := Lib.hid q0.h
  clear z0 z1 cn1 cn2
  go_wp2
  go_loopw [3, 4] (fun sv i wr => ∃ k : Nat, k ≤ 8 ∧ i = .int .i64 k ∧ sv = .string (strOfNums (Im.bytesOf 4 g.frame ++ Im.bytesOf 8 g.dice ++ Im.ships g.ship k)) ∧ Below W0.heap.size W0 wr) (fun _ i _ => 8 - (intOf i).toNat)
  case atStart => exact ⟨0, by omega, rfl, by rw [HS3.out]; simp [Im.ships], K1.out⟩
  case round =>
    obtain ⟨k, hk, rfl, rfl, hb⟩ := hrel
    have PB := Lib.hid (P0.out.below hb P0.out.lt)
    have HB := Lib.hid hb
    have hsl := Im.ships_le g.ship k
    have hlen : (Im.bytesOf 4 g.frame ++ Im.bytesOf 8 g.dice ++ Im.ships g.ship k).length ≤ 12 + 22 * k := by
      rw [List.length_append, List.length_append, Im.bytesOf_len, Im.bytesOf_len]; omega
    by_cases hlt : k < 8
    · have hk8 : (k : Int) < 8 := by omega
      have hstep : Im.bytesOf 4 g.frame ++ Im.bytesOf 8 g.dice ++ Im.ships g.ship (k + 1) = Im.bytesOf 4 g.frame ++ Im.bytesOf 8 g.dice ++ Im.ships g.ship k ++ Im.ship (g.ship k) := by
        show Im.bytesOf 4 g.frame ++ Im.bytesOf 8 g.dice ++ (Im.ships g.ship k ++ Im.ship (g.ship k)) = _
        simp only [List.append_assoc]
      have e := fun j hj => (PB.out.cell (2 + k * 7 + j)).trans (Im.cells_ship g (.slice A n c) r k j hlt hj)
      have e0 := e 0 (by omega)
      have e1 := e 1 (by omega)
      have e2 := e 2 (by omega)
      have e3 := e 3 (by omega)
      have e4 := e 4 (by omega)
      have e5 := e 5 (by omega)
      have e6 := e 6 (by omega)
      have ho := hships k hlt
      have ty := ho.ty
      generalize g.ship k = s at e0 e1 e2 e3 e4 e5 e6 ho ty hstep
      obtain ⟨on, x, y, vx, vy, cool, score⟩ := s
      simp only [Gm.Ship.cells, List.getElem?_cons_zero, List.getElem?_cons_succ, Nat.add_zero] at e0 e1 e2 e3 e4 e5 e6
      obtain ⟨o0, o1, o2, o3, o4, o5, o6, o7, o8⟩ := ho
      obtain ⟨tx, ty, tvx, tvy, _, _⟩ := ty
      unfold Gm.i32 at tx ty tvx tvy
      dsimp only at tx ty tvx tvy o0 o5 o6 o7 o8
      generalize Im.bytesOf 4 g.frame ++ Im.bytesOf 8 g.dice ++ Im.ships g.ship k = pre at *
      obtain ⟨s0, hs0⟩ : ∃ s, s = strOfNums pre := ⟨_, rfl⟩
      have ltP := PB.out.lt
      rw [← hs0]
      clear hb hsl e
      cases on
      · have hne : (⟨false, x, y, vx, vy, cool, score⟩ : Gm.Ship) = Gm.Ship.none := by
          rcases o0 with o0 | o0
          · cases o0
          · exact o0
        obtain ⟨t1, ht1, ha1, hc1⟩ := str_sum (y := ⟨#[0]⟩) (b := [0]) hs0 rfl rfl (by show pre.length + 1 ≤ _; omega)
        have HE := Lib.hid (show .string t1 = Value.string (strOfNums (Im.bytesOf 4 g.frame ++ Im.bytesOf 8 g.dice ++ Im.ships g.ship (k + 1))) by
          rw [hstep, hne, ht1]
          show _ = Value.string (strOfNums (pre ++ Im.bytesOf 1 0))
          rw [Im.bytes10])
        clear hs0 ht1 hne hstep o0 o1 o2 o3 o4
        go_wp2
        go_roundw
        case rel => exact ⟨k + 1, by omega, by go_num, HE.out, HB.out.alloc HB.out.size _⟩
        case measure => simp [intOf]; omega
      · obtain ⟨qa, hqa⟩ : ∃ s, s = strOfNums (Im.bytesOf 4 (IntKind.u64.wrap x)) := ⟨_, rfl⟩
        obtain ⟨qb, hqb⟩ : ∃ s, s = strOfNums (Im.bytesOf 4 (IntKind.u64.wrap y)) := ⟨_, rfl⟩
        obtain ⟨qc, hqc⟩ : ∃ s, s = strOfNums (Im.bytesOf 4 (IntKind.u64.wrap vx)) := ⟨_, rfl⟩
        obtain ⟨qd, hqd⟩ : ∃ s, s = strOfNums (Im.bytesOf 4 (IntKind.u64.wrap vy)) := ⟨_, rfl⟩
        obtain ⟨qe, hqe⟩ : ∃ s, s = strOfNums (Im.bytesOf 1 cool) := ⟨_, rfl⟩
        obtain ⟨qf, hqf⟩ : ∃ s, s = strOfNums (Im.bytesOf 4 score) := ⟨_, rfl⟩
        obtain ⟨t1, ht1, ha1, hc1⟩ := str_sum (y := ⟨#[1]⟩) (b := [1]) hs0 rfl rfl (by simp only [List.length_append, Im.bytesOf_len, List.length_cons, List.length_nil]; omega)
        obtain ⟨t2, ht2, ha2, hc2⟩ := str_sum ht1 hqa rfl (by simp only [List.length_append, Im.bytesOf_len, List.length_cons, List.length_nil]; omega)
        obtain ⟨t3, ht3, ha3, hc3⟩ := str_sum ht2 hqb rfl (by simp only [List.length_append, Im.bytesOf_len, List.length_cons, List.length_nil]; omega)
        obtain ⟨t4, ht4, ha4, hc4⟩ := str_sum ht3 hqc rfl (by simp only [List.length_append, Im.bytesOf_len, List.length_cons, List.length_nil]; omega)
        obtain ⟨t5, ht5, ha5, hc5⟩ := str_sum ht4 hqd rfl (by simp only [List.length_append, Im.bytesOf_len, List.length_cons, List.length_nil]; omega)
        obtain ⟨t6, ht6, ha6, hc6⟩ := str_sum ht5 hqe rfl (by simp only [List.length_append, Im.bytesOf_len, List.length_cons, List.length_nil]; omega)
        obtain ⟨t7, ht7, ha7, hc7⟩ := str_sum ht6 hqf rfl (by simp only [List.length_append, Im.bytesOf_len, List.length_cons, List.length_nil]; omega)
        have HE := Lib.hid (show .string t7 = Value.string (strOfNums (Im.bytesOf 4 g.frame ++ Im.bytesOf 8 g.dice ++ Im.ships g.ship (k + 1))) by
          rw [hstep, Im.ship_on, ht7]
          simp only [List.append_assoc])
        have hw1 : IntKind.u64.wrap cool = cool := by rw [IntKind.wrap_u64]; omega
        have hw2 : IntKind.u64.wrap score = score := by rw [IntKind.wrap_u64]; omega
        have cxa := fun X => Lib.hid (refour_any x X tx)
        have cxb := fun X => Lib.hid (refour_any y X ty)
        have cxc := fun X => Lib.hid (refour_any vx X tvx)
        have cxd := fun X => Lib.hid (refour_any vy X tvy)
        have cne := fun X => Lib.hid (refput_num 1 1 cool rfl X (by decide) ⟨by omega, by omega⟩)
        have cnf := fun X => Lib.hid (refput_num 4 4 score rfl X (by decide) ⟨by omega, by omega⟩)
        rw [← hqa] at cxa; rw [← hqb] at cxb; rw [← hqc] at cxc; rw [← hqd] at cxd; rw [← hqe] at cne; rw [← hqf] at cnf
        clear hs0 hqa hqb hqc hqd hqe hqf ht1 ht2 ht3 ht4 ht5 ht6 ht7 hstep o0 o1 o2 o3 o4
        go_upto_region 8 with fail
        have Q1 := Lib.hid (Box.made wr 24 #[.bool true, .int .i32 x, .int .i32 y, .int .i32 vx, .int .i32 vy, .int .i64 cool, .int .i64 score])
        have K2 := Lib.hid (HB.out.alloc HB.out.size (.cells #[.bool true, .int .i32 x, .int .i32 y, .int .i32 vx, .int .i32 vy, .int .i64 cool, .int .i64 score] 24))
        generalize hW1 : wr.alloc (.cells #[.bool true, .int .i32 x, .int .i32 y, .int .i32 vx, .int .i32 vy, .int .i64 cool, .int .i64 score] 24) = W1 at *
        clear hW1 e0 e1 e2 e3 e4 e5 e6
        have y1 : ∀ q : Ext W1.heap.size W1, q.w.cell? ⟨wr.heap.size, 1, none⟩ = some (.int .i32 x) := fun q => q.cell Q1.out.lt (Q1.out.cell 1)
        have y2 : ∀ q : Ext W1.heap.size W1, q.w.cell? ⟨wr.heap.size, 2, none⟩ = some (.int .i32 y) := fun q => q.cell Q1.out.lt (Q1.out.cell 2)
        have y3 : ∀ q : Ext W1.heap.size W1, q.w.cell? ⟨wr.heap.size, 3, none⟩ = some (.int .i32 vx) := fun q => q.cell Q1.out.lt (Q1.out.cell 3)
        have y4 : ∀ q : Ext W1.heap.size W1, q.w.cell? ⟨wr.heap.size, 4, none⟩ = some (.int .i32 vy) := fun q => q.cell Q1.out.lt (Q1.out.cell 4)
        have y5 : ∀ q : Ext W1.heap.size W1, q.w.cell? ⟨wr.heap.size, 5, none⟩ = some (.int .i64 cool) := fun q => q.cell Q1.out.lt (Q1.out.cell 5)
        have y6 : ∀ q : Ext W1.heap.size W1, q.w.cell? ⟨wr.heap.size, 6, none⟩ = some (.int .i64 score) := fun q => q.cell Q1.out.lt (Q1.out.cell 6)
        refine wp_region_ext W1.heap.size W1 (by kernel_rfl) (by kernel_rfl) (Below.refl _ _) ?_
        repeat (first | go_big_quiet_step (first | (go_at_call 43; first | with_reducible exact Calls.ext_of (Nat.le_refl _) (cne _).out | with_reducible exact Calls.ext_of (Nat.le_refl _) (cnf _).out) | (go_at_call 44; first | with_reducible exact Calls.ext_of (Nat.le_refl _) (cxa _).out | with_reducible exact Calls.ext_of (Nat.le_refl _) (cxb _).out | with_reducible exact Calls.ext_of (Nat.le_refl _) (cxc _).out | with_reducible exact Calls.ext_of (Nat.le_refl _) (cxd _).out)))
        refine wpQuiet_nil ?_
        intro _ hw'
        obtain ⟨q1, hw''⟩ := hw'
        subst hw''
        have K3 := Lib.hid (K2.out.trans (q1.h.mono K2.out.size))
        clear y1 y2 y3 y4 y5 y6 cxa cxb cxc cxd cne cnf
        go_wp2
        go_roundw
        case rel => exact ⟨k + 1, by omega, by go_num, HE.out, K3.out⟩
        case measure => simp [intOf]; omega
    · have hk8 : ¬ (k : Int) < 8 := by omega
      obtain rfl : k = 8 := by omega
      have e58 := (PB.out.cell 58).trans ((Im.cells_g _ _ _ 58 (by omega)).trans (Gm.cells_58 _ _))
      have HPR := Lib.hid (show Im.put g r = Im.bytesOf 4 g.frame ++ Im.bytesOf 8 g.dice ++ Im.ships g.ship 8 ++ Im.bytesOf 1 (n : Int) ++ Im.shots g.shots ++ Im.bytesOf 4 r.version ++ Im.seats r 8 from HP.out)
      generalize Im.bytesOf 4 g.frame ++ Im.bytesOf 8 g.dice ++ Im.ships g.ship 8 = pre at *
      obtain ⟨s0, hs0⟩ : ∃ s, s = strOfNums pre := ⟨_, rfl⟩
      obtain ⟨qa, hqa⟩ : ∃ s, s = strOfNums (Im.bytesOf 1 (n : Int)) := ⟨_, rfl⟩
      obtain ⟨t1, ht1, ha1, hc1⟩ := str_sum hs0 hqa rfl (by rw [Im.bytesOf_len]; omega)
      have cn := fun X => Lib.hid (refput_num 1 1 (n : Int) rfl X (by decide) ⟨by omega, by omega⟩)
      rw [← hqa] at cn
      rw [← hs0]
      have HT1 := Lib.hid ht1
      have KB := Lib.hid (K0.out.trans (HB.out.mono K0.out.size))
      clear hs0 hqa ht1 hb hsl
      go_wp2_with (go_at_call 43; ((with_reducible refine ((cn _).out).mono ?_); rintro e w3 ⟨rfl, hb⟩; have P3 := Lib.hid (PB.out.below hb PB.out.lt); have K3 := Lib.hid (KB.out.trans (hb.mono KB.out.size)); clear hb))
      have hplen : (pre ++ Im.bytesOf 1 (n : Int)).length ≤ 200 := by rw [List.length_append, Im.bytesOf_len]; omega
      rw [HT1.out]
      go_loopw [3, 6] (fun sv i wq => ∃ k : Nat, k ≤ n ∧ i = .int .i64 k ∧ sv = .string (strOfNums (pre ++ Im.bytesOf 1 (n : Int) ++ Im.shots (g.shots.take k))) ∧ Box wq w.heap.size 35 (Im.cells g (.slice A n c) r) ∧ Below w.heap.size w wq) (fun _ i _ => n - (intOf i).toNat)
      case atStart => exact ⟨0, by omega, rfl, by simp [Im.shots], P3.out, K3.out⟩
      case round =>
        obtain ⟨k, hk, rfl, rfl, hB, hb⟩ := hrel
        clear e58
        have e58 := (hB.cell 58).trans ((Im.cells_g _ _ _ 58 (by omega)).trans (Gm.cells_58 _ _))
        have HB2 := Lib.hid hB
        have HBB := Lib.hid hb
        clear PB HB KB P3 K3
        by_cases hlt : k < n
        · have hk8 : (k : Int) < n := by omega
          have hkl : k < g.shots.length := by have := HN.out; omega
          obtain ⟨ad, rfl, hbl, e0, e1, e2, e3, e4, e5⟩ := shots_at ((hr1.out.below hb)) HN.out k hkl
          have hsn := Im.shots_snoc g.shots k hkl
          have ho := hshots k hkl
          have ty := ho.ty
          have hshl := Im.shots_len (g.shots.take k)
          rw [List.length_take] at hshl
          generalize hv : g.shots[k] = v at e0 e1 e2 e3 e4 e5 hsn ho ty
          obtain ⟨owner, x, y, vx, vy, left⟩ := v
          obtain ⟨o1, o2, _, _, _, _, o7, o8⟩ := ho
          obtain ⟨_, tx, ty, tvx, tvy, _⟩ := ty
          unfold Gm.i32 at tx ty tvx tvy
          dsimp only at e0 e1 e2 e3 e4 e5 o1 o2 o7 o8 tx ty tvx tvy
          have sz := hb.size
          have ltA : ad.block < wr.heap.size := Nat.lt_of_lt_of_le hbl hb.size
          have ltP := hB.lt
          have hlen2 : (pre ++ Im.bytesOf 1 (n : Int) ++ Im.shots (g.shots.take k)).length ≤ 200 + 18 * k := by rw [List.length_append]; omega
          have hpre : pre ++ Im.bytesOf 1 (n : Int) ++ Im.shots (g.shots.take (k + 1)) = pre ++ Im.bytesOf 1 (n : Int) ++ Im.shots (g.shots.take k) ++ Im.shot ⟨owner, x, y, vx, vy, left⟩ := by
            rw [hsn]; simp only [List.append_assoc]
          generalize hp2 : pre ++ Im.bytesOf 1 (n : Int) ++ Im.shots (g.shots.take k) = pr2 at *
          obtain ⟨s0, hs0⟩ : ∃ s, s = strOfNums pr2 := ⟨_, rfl⟩
          rw [← hs0]
          obtain ⟨qo, hqo⟩ : ∃ s, s = strOfNums (Im.bytesOf 1 owner) := ⟨_, rfl⟩
          obtain ⟨qa, hqa⟩ : ∃ s, s = strOfNums (Im.bytesOf 4 (IntKind.u64.wrap x)) := ⟨_, rfl⟩
          obtain ⟨qb, hqb⟩ : ∃ s, s = strOfNums (Im.bytesOf 4 (IntKind.u64.wrap y)) := ⟨_, rfl⟩
          obtain ⟨qc, hqc⟩ : ∃ s, s = strOfNums (Im.bytesOf 4 (IntKind.u64.wrap vx)) := ⟨_, rfl⟩
          obtain ⟨qd, hqd⟩ : ∃ s, s = strOfNums (Im.bytesOf 4 (IntKind.u64.wrap vy)) := ⟨_, rfl⟩
          obtain ⟨qf, hqf⟩ : ∃ s, s = strOfNums (Im.bytesOf 1 left) := ⟨_, rfl⟩
          obtain ⟨t1, ht1, ha1, hc1⟩ := str_sum hs0 hqo rfl (by simp only [List.length_append, Im.bytesOf_len, List.length_cons, List.length_nil]; omega)
          obtain ⟨t2, ht2, ha2, hc2⟩ := str_sum ht1 hqa rfl (by simp only [List.length_append, Im.bytesOf_len, List.length_cons, List.length_nil]; omega)
          obtain ⟨t3, ht3, ha3, hc3⟩ := str_sum ht2 hqb rfl (by simp only [List.length_append, Im.bytesOf_len, List.length_cons, List.length_nil]; omega)
          obtain ⟨t4, ht4, ha4, hc4⟩ := str_sum ht3 hqc rfl (by simp only [List.length_append, Im.bytesOf_len, List.length_cons, List.length_nil]; omega)
          obtain ⟨t5, ht5, ha5, hc5⟩ := str_sum ht4 hqd rfl (by simp only [List.length_append, Im.bytesOf_len, List.length_cons, List.length_nil]; omega)
          obtain ⟨t6, ht6, ha6, hc6⟩ := str_sum ht5 hqf rfl (by simp only [List.length_append, Im.bytesOf_len, List.length_cons, List.length_nil]; omega)
          have HE := Lib.hid (show .string t6 = Value.string (strOfNums (pre ++ Im.bytesOf 1 (n : Int) ++ Im.shots (g.shots.take (k + 1)))) by
            rw [hpre, Im.shot_is, ht6]
            simp only [List.append_assoc])
          have hw1 : IntKind.u64.wrap owner = owner := by rw [IntKind.wrap_u64]; omega
          have hw2 : IntKind.u64.wrap left = left := by rw [IntKind.wrap_u64]; omega
          have cno := fun X => Lib.hid (refput_num 1 1 owner rfl X (by decide) ⟨by omega, by omega⟩)
          have cxa := fun X => Lib.hid (refour_any x X tx)
          have cxb := fun X => Lib.hid (refour_any y X ty)
          have cxc := fun X => Lib.hid (refour_any vx X tvx)
          have cxd := fun X => Lib.hid (refour_any vy X tvy)
          have cnf := fun X => Lib.hid (refput_num 1 1 left rfl X (by decide) ⟨by omega, by omega⟩)
          rw [← hqo] at cno; rw [← hqa] at cxa; rw [← hqb] at cxb; rw [← hqc] at cxc; rw [← hqd] at cxd; rw [← hqf] at cnf
          clear hs0 hqo hqa hqb hqc hqd hqf ht1 ht2 ht3 ht4 ht5 ht6 hpre hsn hv hb hB hp2 hshl
          go_upto_region 14 with fail
          have Q1 := Lib.hid (Box.made wr 88 #[.int .i64 owner, .int .i32 x, .int .i32 y, .int .i32 vx, .int .i32 vy, .int .i64 left])
          have K2 := Lib.hid (HBB.out.alloc HBB.out.size (.cells #[.int .i64 owner, .int .i32 x, .int .i32 y, .int .i32 vx, .int .i32 vy, .int .i64 left] 88))
          have P2 := Lib.hid (HB2.out.alloc (.cells #[.int .i64 owner, .int .i32 x, .int .i32 y, .int .i32 vx, .int .i32 vy, .int .i64 left] 88))
          generalize hW1 : wr.alloc (.cells #[.int .i64 owner, .int .i32 x, .int .i32 y, .int .i32 vx, .int .i32 vy, .int .i64 left] 88) = W1 at *
          clear hW1 e0 e1 e2 e3 e4 e5 e58
          have y0 : ∀ q : Ext W1.heap.size W1, q.w.cell? ⟨wr.heap.size, 0, none⟩ = some (.int .i64 owner) := fun q => q.cell Q1.out.lt (Q1.out.cell 0)
          have y1 : ∀ q : Ext W1.heap.size W1, q.w.cell? ⟨wr.heap.size, 1, none⟩ = some (.int .i32 x) := fun q => q.cell Q1.out.lt (Q1.out.cell 1)
          have y2 : ∀ q : Ext W1.heap.size W1, q.w.cell? ⟨wr.heap.size, 2, none⟩ = some (.int .i32 y) := fun q => q.cell Q1.out.lt (Q1.out.cell 2)
          have y3 : ∀ q : Ext W1.heap.size W1, q.w.cell? ⟨wr.heap.size, 3, none⟩ = some (.int .i32 vx) := fun q => q.cell Q1.out.lt (Q1.out.cell 3)
          have y4 : ∀ q : Ext W1.heap.size W1, q.w.cell? ⟨wr.heap.size, 4, none⟩ = some (.int .i32 vy) := fun q => q.cell Q1.out.lt (Q1.out.cell 4)
          have y5 : ∀ q : Ext W1.heap.size W1, q.w.cell? ⟨wr.heap.size, 5, none⟩ = some (.int .i64 left) := fun q => q.cell Q1.out.lt (Q1.out.cell 5)
          refine wp_region_ext W1.heap.size W1 (by kernel_rfl) (by kernel_rfl) (Below.refl _ _) ?_
          repeat (first | go_big_quiet_step (first | (go_at_call 43; first | with_reducible exact Calls.ext_of (Nat.le_refl _) (cno _).out | with_reducible exact Calls.ext_of (Nat.le_refl _) (cnf _).out) | (go_at_call 44; first | with_reducible exact Calls.ext_of (Nat.le_refl _) (cxa _).out | with_reducible exact Calls.ext_of (Nat.le_refl _) (cxb _).out | with_reducible exact Calls.ext_of (Nat.le_refl _) (cxc _).out | with_reducible exact Calls.ext_of (Nat.le_refl _) (cxd _).out)))
          refine wpQuiet_nil ?_
          intro _ hw'
          obtain ⟨q1, hw''⟩ := hw'
          subst hw''
          have K3 := Lib.hid (K2.out.trans (q1.h.mono K2.out.size))
          have P3 := Lib.hid (P2.out.below q1.h P2.out.lt)
          clear y0 y1 y2 y3 y4 y5 cno cxa cxb cxc cxd cnf
          go_wp2
          go_roundw
          case rel => exact ⟨k + 1, by omega, by go_num, HE.out, P3.out, K3.out⟩
          case measure => simp [intOf]; omega
        · have hk8 : ¬ (k : Int) < n := by omega
          obtain rfl : k = n := by omega
          have htk : g.shots.take k = g.shots := List.take_of_length_le (by have := HN.out; omega)
          rw [htk]
          have hshl := Im.shots_len g.shots
          have e59 := (hB.cell 59).trans ((Im.cells_r g (.slice A k c) r 0).trans (Ros.cells_0 _))
          have hlen2 : (pre ++ Im.bytesOf 1 (k : Int) ++ Im.shots g.shots).length ≤ 200 + 18 * 32 := by rw [List.length_append]; have := HN.out; omega
          generalize hp2 : pre ++ Im.bytesOf 1 (k : Int) ++ Im.shots g.shots = pr2 at *
          have HPR2 := Lib.hid (show Im.put g r = pr2 ++ Im.bytesOf 4 r.version ++ Im.seats r 8 by rw [HPR.out, ← hp2])
          obtain ⟨s0, hs0⟩ : ∃ s, s = strOfNums pr2 := ⟨_, rfl⟩
          obtain ⟨qa, hqa⟩ : ∃ s, s = strOfNums (Im.bytesOf 4 r.version) := ⟨_, rfl⟩
          obtain ⟨t1, ht1, ha1, hc1⟩ := str_sum hs0 hqa rfl (by rw [Im.bytesOf_len]; omega)
          have cv := fun X => Lib.hid (refput_num 4 4 r.version rfl X (by decide) ⟨by omega, by omega⟩)
          rw [← hqa] at cv
          rw [← hs0]
          have HT1 := Lib.hid ht1
          clear hs0 hqa ht1 hb hB hp2 htk hshl
          go_wp2_with (go_at_call 43; ((with_reducible refine ((cv _).out).mono ?_); rintro e w4 ⟨rfl, hb⟩; have P4 := Lib.hid (HB2.out.below hb HB2.out.lt); have K4 := Lib.hid (HBB.out.trans (hb.mono HBB.out.size)); clear hb))
          rw [HT1.out]
          go_loopw [3, 8] (fun sv i wq => ∃ j : Nat, j ≤ 8 ∧ i = .int .i64 j ∧ sv = .string (strOfNums (pr2 ++ Im.bytesOf 4 r.version ++ Im.seats r j)) ∧ Box wq w.heap.size 35 (Im.cells g (.slice A k c) r) ∧ Below w.heap.size w wq) (fun _ i _ => 8 - (intOf i).toNat)
          case atStart => exact ⟨0, by omega, rfl, by simp [Im.seats], P4.out, K4.out⟩
          case round =>
            obtain ⟨j, hj, rfl, rfl, hB, hb⟩ := hrel
            have HB3 := Lib.hid hB
            have HBB3 := Lib.hid hb
            clear P4 K4 HB2 HBB e59 e58
            by_cases hlt8 : j < 8
            · have hj8 : (j : Int) < 8 := by omega
              have hse := hseats j hlt8
              unfold Ros.OkSeat at hse
              have hsl := Im.seats_len r j
              have hlen3 : (pr2 ++ Im.bytesOf 4 r.version ++ Im.seats r j).length ≤ 1000 := by rw [List.length_append, List.length_append, Im.bytesOf_len]; omega
              have hpre : pr2 ++ Im.bytesOf 4 r.version ++ Im.seats r (j + 1) = pr2 ++ Im.bytesOf 4 r.version ++ Im.seats r j ++ (Im.bytesOf 1 (r.peer j + 1) ++ Im.bytesOf 2 (r.gen j)) := by
                show pr2 ++ Im.bytesOf 4 r.version ++ (Im.seats r j ++ (Im.bytesOf 1 (r.peer j + 1) ++ Im.bytesOf 2 (r.gen j))) = _
                simp only [List.append_assoc]
              have ep := (hB.cell (60 + j * 2)).trans (Im.cells_peer g (.slice A k c) r j hlt8)
              have eg := (hB.cell (60 + j * 2 + 1)).trans (Im.cells_gen g (.slice A k c) r j hlt8)
              generalize r.peer j = pe at *
              generalize r.gen j = ge at *
              generalize hp3 : pr2 ++ Im.bytesOf 4 r.version ++ Im.seats r j = pr3 at *
              obtain ⟨s0, hs0⟩ : ∃ s, s = strOfNums pr3 := ⟨_, rfl⟩
              rw [← hs0]
              obtain ⟨qa, hqa⟩ : ∃ s, s = strOfNums (Im.bytesOf 1 (pe + 1)) := ⟨_, rfl⟩
              obtain ⟨qb, hqb⟩ : ∃ s, s = strOfNums (Im.bytesOf 2 ge) := ⟨_, rfl⟩
              obtain ⟨t1, ht1, ha1, hc1⟩ := str_sum hs0 hqa rfl (by simp only [List.length_append, Im.bytesOf_len, List.length_cons, List.length_nil]; omega)
              obtain ⟨t2, ht2, ha2, hc2⟩ := str_sum ht1 hqb rfl (by simp only [List.length_append, Im.bytesOf_len, List.length_cons, List.length_nil]; omega)
              have HE := Lib.hid (show .string t2 = Value.string (strOfNums (pr2 ++ Im.bytesOf 4 r.version ++ Im.seats r (j + 1))) by
                rw [hpre, ht2]
                simp only [List.append_assoc])
              have hw0 : IntKind.i64.wrap (pe + 1) = pe + 1 := by rw [IntKind.wrap_i64]; omega
              have hw1 : IntKind.u64.wrap (pe + 1) = pe + 1 := by rw [IntKind.wrap_u64]; omega
              have hw2 : IntKind.u64.wrap ge = ge := by rw [IntKind.wrap_u64]; omega
              have cnp := fun X => Lib.hid (refput_num 1 1 (pe + 1) rfl X (by decide) ⟨by omega, by omega⟩)
              have cng := fun X => Lib.hid (refput_num 2 2 ge rfl X (by decide) ⟨by omega, by omega⟩)
              rw [← hqa] at cnp; rw [← hqb] at cng
              have zp : ∀ q : Ext wr.heap.size wr, q.w.cell? ⟨w.heap.size, 60 + j * 2, none⟩ = some (.int .i64 pe) := fun q => q.cell HB3.out.lt ep
              have zg : ∀ q : Ext wr.heap.size wr, q.w.cell? ⟨w.heap.size, 60 + j * 2 + 1, none⟩ = some (.int .i64 ge) := fun q => q.cell HB3.out.lt eg
              clear hs0 hqa hqb ht1 ht2 hpre hb hB hp3 hsl ep eg
              go_upto_region 19 with fail
              refine wp_region_ext wr.heap.size wr (by kernel_rfl) (by kernel_rfl) (Below.refl _ _) ?_
              repeat (first | go_big_quiet_step ((go_at_call 43; first | with_reducible exact Calls.ext_of (Nat.le_refl _) (cnp _).out | with_reducible exact Calls.ext_of (Nat.le_refl _) (cng _).out)))
              refine wpQuiet_nil ?_
              intro _ hw'
              obtain ⟨q1, hw''⟩ := hw'
              subst hw''
              have K5 := Lib.hid (HBB3.out.trans (q1.h.mono HBB3.out.size))
              have P5 := Lib.hid (HB3.out.below q1.h HB3.out.lt)
              clear zp zg cnp cng
              go_wp2
              go_roundw
              case rel => exact ⟨j + 1, by omega, by go_num, HE.out, P5.out, K5.out⟩
              case measure => simp [intOf]; omega
            · have hj8 : ¬ (j : Int) < 8 := by omega
              obtain rfl : j = 8 := by omega
              have HE := Lib.hid (show strOfNums (pr2 ++ Im.bytesOf 4 r.version ++ Im.seats r 8) = strOfNums (Im.put g r) by rw [HPR2.out])
              rw [HE.out]
              clear hb hB
              go_wp2
              go_ret
              exact ⟨rfl, HBB3.out⟩
end Go.Proofs.Ytghomofakpjglaa
namespace Go.Proofs.Ytghomofakpjglaa
namespace Im
open Go Go.RowKit _root_.Im
set_option linter.unusedVariables false
/-- The whole T is what f makes of what is left; behind a fault it is none. -/
def Sn {α : Type} (T : Option α) (f : List Int → Option α) : Option (List Int) → Prop
  | none => T = none
  | some r => T = f r
theorem Sn.num {α : Type} {T : Option α} {f : List Int → Option α} {g : Int → List Int → Option α} {o : Option (List Int)} (n : Nat) (h : Sn T f o) (hf : ∀ r, f r = (rdn n r).bind fun q => g q.1 q.2) : Sn T (g (Sx.num n o)) (Sx.rest n o) := by
  match o with
  | none => exact h
  | some r =>
    have hT : T = f r := h
    rw [hf r] at hT
    cases hr : rdn n r with
    | none => rw [(Sx.num_none hr).2]; rw [hr] at hT; exact hT
    | some q =>
      have hr' : rdn n r = some (q.1, q.2) := hr
      rw [(Sx.num_some hr').2, (Sx.num_some hr').1]
      rw [hr] at hT
      exact hT
theorem Sn.bad {α : Type} {T : Option α} {f f' : List Int → Option α} {o : Option (List Int)} (h : Sn T f o) (hf : ∀ r, f r = none) : Sn T f' none := by
  match o with
  | none => exact h
  | some r => exact (show T = f r from h).trans (hf r)
theorem Sn.to {α : Type} {T : Option α} {f f' : List Int → Option α} {o : Option (List Int)} (h : Sn T f o) (hf : ∀ r, f r = f' r) : Sn T f' o := by
  match o with
  | none => exact h
  | some r => exact (show T = f r from h).trans (hf r)
def tail3 (g : Gm.G) (k : Nat) (q : Ros.R) (r : List Int) : Option ((Gm.G × Ros.R) × List Int) := (decSeats k (8 - k) q r).bind fun x => some ((g, x.1), x.2)
def tail2 (g : Gm.G) (r : List Int) : Option ((Gm.G × Ros.R) × List Int) := (rdn 4 r).bind fun v => tail3 g 0 { R0 with version := v.1 } v.2
def fShots (f d : Int) (s : Nat → Gm.Ship) (n k : Nat) (acc : List Gm.Shot) (r : List Int) : Option ((Gm.G × Ros.R) × List Int) := (decShots (n - k) acc r).bind fun l => tail2 ⟨f, d, s, l.1⟩ l.2
def tail1 (f d : Int) (s : Nat → Gm.Ship) (r : List Int) : Option ((Gm.G × Ros.R) × List Int) := (rdn 1 r).bind fun n => fShots f d s n.1.toNat 0 [] n.2
def fShips (f d : Int) (k : Nat) (s : Nat → Gm.Ship) (r : List Int) : Option ((Gm.G × Ros.R) × List Int) := (decShips k (8 - k) s r).bind fun x => tail1 f d x.1 x.2
theorem dec_is (l : List Int) : dec l = (rdn 4 l).bind fun f => (rdn 8 f.2).bind fun d => fShips f.1 d.1 0 ships0 d.2 := by
  unfold dec fShips tail1 fShots tail2 tail3 decRow
  simp only [Option.bind_assoc, Nat.sub_zero]
theorem fShips_step (f d : Int) (k : Nat) (hk : k < 8) (s : Nat → Gm.Ship) (r : List Int) : fShips f d k s r = (rdn 1 r).bind fun o => if o.1 = 0 then fShips f d (k + 1) (Gm.upd s k Gm.Ship.none) o.2 else if o.1 = 1 then
    (rdn 4 o.2).bind fun a => (rdn 4 a.2).bind fun b => (rdn 4 b.2).bind fun c => (rdn 4 c.2).bind fun e => (rdn 1 e.2).bind fun h => (rdn 4 h.2).bind fun t =>
      fShips f d (k + 1) (Gm.upd s k ⟨true, IntKind.i32.wrap a.1, IntKind.i32.wrap b.1, IntKind.i32.wrap c.1, IntKind.i32.wrap e.1, h.1, t.1⟩) t.2 else none := by
  unfold fShips
  rw [show 8 - k = (8 - (k + 1)) + 1 by omega]
  show ((decShip r).bind _).bind _ = _
  unfold decShip
  simp only [Option.bind_assoc]
  congr 1
  funext o
  split
  · simp
  · split
    · unfold decParts decParts decParts decParts decParts
      simp only [Option.bind_assoc, Option.bind_some]
      simp
    · simp
theorem fShips_end (f d : Int) (s : Nat → Gm.Ship) (r : List Int) : fShips f d 8 s r = tail1 f d s r := by
  unfold fShips; rw [Nat.sub_self]; rfl
theorem fShots_step (f d : Int) (s : Nat → Gm.Ship) (n k : Nat) (hk : k < n) (acc : List Gm.Shot) (r : List Int) : fShots f d s n k acc r = (rdn 1 r).bind fun o => (rdn 4 o.2).bind fun a => (rdn 4 a.2).bind fun b => (rdn 4 b.2).bind fun c => (rdn 4 c.2).bind fun e => (rdn 1 e.2).bind fun h =>
    fShots f d s n (k + 1) (acc ++ [⟨o.1, IntKind.i32.wrap a.1, IntKind.i32.wrap b.1, IntKind.i32.wrap c.1, IntKind.i32.wrap e.1, h.1⟩]) h.2 := by
  unfold fShots
  rw [show n - k = (n - (k + 1)) + 1 by omega]
  show ((decShot r).bind _).bind _ = _
  unfold decShot
  simp only [Option.bind_assoc]
  congr 1
  funext o
  unfold decParts decParts decParts decParts decParts
  simp only [Option.bind_assoc, Option.bind_some]
  simp
theorem fShots_end (f d : Int) (s : Nat → Gm.Ship) (n : Nat) (acc : List Gm.Shot) (r : List Int) : fShots f d s n n acc r = tail2 ⟨f, d, s, acc⟩ r := by
  unfold fShots; rw [Nat.sub_self]; rfl
theorem tail3_step (g : Gm.G) (k : Nat) (hk : k < 8) (q : Ros.R) (r : List Int) : tail3 g k q r = (rdn 1 r).bind fun p => (rdn 2 p.2).bind fun n => tail3 g (k + 1) (setSeat q k (p.1 - 1) n.1) n.2 := by
  unfold tail3
  rw [show 8 - k = (8 - (k + 1)) + 1 by omega]
  show ((decSeat r).bind _).bind _ = _
  unfold decSeat
  simp only [Option.bind_assoc]
  rfl
theorem set7im (g : Gm.G) (s : Value) (r : Ros.R) (k : Nat) (hk : k < 8) (t : Gm.Ship) : (((((((cells g s r).setIfInBounds (2 + k * 7) (.bool t.on)).setIfInBounds (2 + k * 7 + 1) (.int .i32 t.x)).setIfInBounds (2 + k * 7 + 2) (.int .i32 t.y)).setIfInBounds (2 + k * 7 + 3) (.int .i32 t.vx)).setIfInBounds (2 + k * 7 + 4) (.int .i32 t.vy)).setIfInBounds (2 + k * 7 + 5) (.int .i64 t.cool)).setIfInBounds (2 + k * 7 + 6) (.int .i64 t.score) = cells { g with ship := Gm.upd g.ship k t } s r := by
  have e : ∀ (cs : Array Value) (i : Nat) (v : Value), i < 59 → cs.size = 59 → (cs ++ Ros.cells r).setIfInBounds i v = cs.setIfInBounds i v ++ Ros.cells r := fun cs i v hi hc => by rw [Array.setIfInBounds_append, if_pos (by omega)]
  unfold cells
  rw [e _ _ _ (by omega) (by simp [Gm.cells_size]), e _ _ _ (by omega) (by simp [Gm.cells_size]), e _ _ _ (by omega) (by simp [Gm.cells_size]), e _ _ _ (by omega) (by simp [Gm.cells_size]), e _ _ _ (by omega) (by simp [Gm.cells_size]), e _ _ _ (by omega) (by simp [Gm.cells_size]), e _ _ _ (by omega) (by simp [Gm.cells_size]), set7 g s k hk t]
end Im
open Go.RowKit Go.Shelf
set_option linter.unusedVariables false
set_option linter.unusedSimpArgs false

theorem own_sol {w w' : World} {B base n size : Nat} {e t : TypeId} {v : Value} {xs : List Value} {cs : Array Value} (h : w.ownsRow base e size v n xs) (k : Sol B w w') (hB : Box w B t cs) (ht : e ≠ t) : w'.ownsRow base e size v n xs := by
  have hne := hB.unowned h ht
  obtain ⟨hl, h' | ⟨g, cap, cur, rfl, hbg, hg, hr⟩⟩ := h
  · exact ⟨hl, .inl h'⟩
  · have hlt : g < w.heap.size := (Array.getElem?_eq_some_iff.1 hg).1
    exact ⟨hl, .inr ⟨g, cap, cur, rfl, hbg, (k.block g hlt (fun e => hne (by rw [e]; rfl))).trans hg, hr⟩⟩
theorem own_new {w : World} {base n : Nat} {e : TypeId} {size : Nat} {v : Value} {xs : List Value} (h : w.ownsRow base e size v n xs) : v.ownBlock ≠ some w.heap.size := by
  obtain ⟨_, ⟨rfl, _⟩ | ⟨g, cap, cur, rfl, _, hg, _⟩⟩ := h
  · intro h; cases h
  · intro he
    have e' : g = w.heap.size := by injection he
    have := (Array.getElem?_eq_some_iff.1 hg).1
    omega
/-- Where the document's Get stands: its result's variable, its reader, its state; the shots' row is not block m. -/
structure GS (w : World) (g : Gm.G) (q : Ros.R) (o : Option (List Int)) (m : Option Nat) (W : World) : Prop where
  bytes : ∀ x, o = some x → Im.IsBytes x
  res : Box W w.heap.size 35 Im.zero
  rd : RIs W (w.heap.size + 1) o
  ent : ∃ A c, Box W (w.heap.size + 1 + 1) 35 (Im.cells g (.slice A g.shots.length c) q) ∧ W.ownsRow w.heap.size 88 6 (.slice A g.shots.length c) g.shots.length (Gm.shotCells g.shots) ∧ ∀ b, m = some b → (Value.slice A g.shots.length c).ownBlock ≠ some b
  keep : Below w.heap.size w W
section
variable {w W W' : World} {g g' : Gm.G} {q q' : Ros.R} {o o' : Option (List Int)} {m : Option Nat}
theorem GS.sol (h : GS w g q o m W) (k : Sol (w.heap.size + 1) W W') (hr : RIs W' (w.heap.size + 1) o') (hB : ∀ x, o' = some x → Im.IsBytes x) : GS w g q o' m W' := by
  obtain ⟨A, c, h1, h2, h3⟩ := h.ent
  obtain ⟨s, b, hb⟩ := h.rd.box
  exact ⟨hB, h.res.sol k (by omega), hr, ⟨A, c, h1.sol k (by omega), own_sol h2 k hb (by decide), h3⟩, h.keep.trans (k.below (by omega) h.keep.size)⟩
theorem GS.call (h : GS w g q o m W) (hb : Below W.heap.size W W') : GS w g q o m W' := by
  obtain ⟨A, c, h1, h2, h3⟩ := h.ent
  exact ⟨h.bytes, h.res.below hb h.res.lt, h.rd.below hb h.rd.lt, ⟨A, c, h1.below hb h1.lt, own_below h2 hb (Nat.le_refl _), h3⟩, h.keep.trans (hb.mono h.keep.size)⟩
theorem GS.mark (h : GS w g q o m W) (x : Obj) : GS w g q o (some W.heap.size) (W.alloc x) := by
  obtain ⟨A, c, h1, h2, h3⟩ := h.ent
  have hb := one_below W x
  exact ⟨h.bytes, h.res.below hb h.res.lt, h.rd.below hb h.rd.lt, ⟨A, c, h1.below hb h1.lt, own_below h2 hb (Nat.le_refl _), fun b hb' => by injection hb' with hb'; subst hb'; exact own_new h2⟩, h.keep.trans (hb.mono h.keep.size)⟩
theorem GS.unmark (h : GS w g q o m W) : GS w g q o none W := ⟨h.bytes, h.res, h.rd, by obtain ⟨A, c, h1, h2, h3⟩ := h.ent; exact ⟨A, c, h1, h2, fun b h => (by cases h)⟩, h.keep⟩
theorem GS.off {b : Nat} {t : TypeId} (h : GS w g q o (some b) W) {cs : Array Value} (hQ : Box W b t cs) (h1' : 35 ≠ t) (h2' : t ≠ 91) (hb : w.heap.size ≤ b) (i : Nat) (u : Value) : GS w g q o (some b) (W.setCell ⟨b, i, none⟩ u) := by
  obtain ⟨A, c, h1, h2, h3⟩ := h.ent
  exact ⟨h.bytes, h.res.far (p := ⟨b, i, none⟩) (Box.apart h.res hQ h1') u, h.rd.off (p := ⟨b, i, none⟩) hQ h2' u, ⟨A, c, h1.far (p := ⟨b, i, none⟩) (Box.apart h1 hQ h1') u, ownsRow_setCell_other (a := ⟨b, i, none⟩) h2 (h3 b rfl) u, h3⟩, h.keep.setCell (p := ⟨b, i, none⟩) hb u⟩
theorem GS.set (h : GS w g q o m W) (i : Nat) (u : Value) (he : ∀ sl, (Im.cells g sl q).setIfInBounds i u = Im.cells g' sl q') (hs : g'.shots = g.shots) : GS w g' q' o m (W.setCell ⟨w.heap.size + 1 + 1, i, none⟩ u) := by
  obtain ⟨A, c, h1, h2, h3⟩ := h.ent
  have b1 := h1.put i u
  rw [he] at b1
  refine ⟨h.bytes, h.res.far (p := ⟨w.heap.size + 1 + 1, i, none⟩) (by show w.heap.size ≠ w.heap.size + 1 + 1; omega) u, h.rd.off (p := ⟨w.heap.size + 1 + 1, i, none⟩) h1 (by decide) u, ⟨A, c, ?_, ?_, ?_⟩, h.keep.setCell (p := ⟨w.heap.size + 1 + 1, i, none⟩) (by show w.heap.size ≤ w.heap.size + 1 + 1; omega) u⟩
  · rw [hs]; exact b1
  · rw [hs]; exact ownsRow_setCell_other (a := ⟨w.heap.size + 1 + 1, i, none⟩) h2 (h1.unowned h2 (by decide)) u
  · rw [hs]; exact h3
theorem GS.setship (h : GS w g q o m W) {k : Nat} (hk : k < 8) (t : Gm.Ship) : GS w { g with ship := Gm.upd g.ship k t } q o m (stored W (w.heap.size + 1 + 1) k t) := by
  obtain ⟨A, c, h1, h2, h3⟩ := h.ent
  obtain ⟨s, b, hb⟩ := h.rd.box
  have b7 := ((((((h1.put (2 + k * 7) (.bool t.on)).put (2 + k * 7 + 1) (.int .i32 t.x)).put (2 + k * 7 + 2) (.int .i32 t.y)).put (2 + k * 7 + 3) (.int .i32 t.vx)).put (2 + k * 7 + 4) (.int .i32 t.vy)).put (2 + k * 7 + 5) (.int .i64 t.cool)).put (2 + k * 7 + 6) (.int .i64 t.score)
  rw [Im.set7im g _ q k hk t] at b7
  exact ⟨h.bytes, stored_far h.res (by omega) t, h.rd.stays ((stored_far hb (by omega) t).is.trans hb.is.symm), ⟨A, c, b7, stored_own h2 (h1.unowned h2 (by decide)) t, h3⟩, stored_below h.keep (by omega) t⟩
theorem GS.setrd (h : GS w g q o m W) (u : Value) (hr : RIs (W.setCell ⟨w.heap.size + 1, 1, none⟩ u) (w.heap.size + 1) o') (hB : ∀ x, o' = some x → Im.IsBytes x) : GS w g q o' m (W.setCell ⟨w.heap.size + 1, 1, none⟩ u) := by
  obtain ⟨A, c, h1, h2, h3⟩ := h.ent
  obtain ⟨s, b, hb⟩ := h.rd.box
  exact ⟨hB, h.res.far (p := ⟨w.heap.size + 1, 1, none⟩) (by show w.heap.size ≠ w.heap.size + 1; omega) _, hr, ⟨A, c, h1.far (p := ⟨w.heap.size + 1, 1, none⟩) (by show w.heap.size + 1 + 1 ≠ w.heap.size + 1; omega) _, ownsRow_setCell_other (a := ⟨w.heap.size + 1, 1, none⟩) h2 (hb.unowned h2 (by decide)) _, h3⟩, h.keep.setCell (p := ⟨w.heap.size + 1, 1, none⟩) (by show w.heap.size ≤ w.heap.size + 1; omega) _⟩
end
set_option maxRecDepth 100000 in
theorem rfour_any (o : Option (List Int)) (B : Nat) (w : World) (hB : ∀ l, o = some l → Im.IsBytes l) (h : RIs w B o) :
    Calls Try.prog 49 #[.pointer (some ⟨B, 0, none⟩)] w fun e w' => e = .returned (.int .i32 (IntKind.i32.wrap (Sx.num 4 o))) ∧ RIs w' B (Sx.rest 4 o) ∧ Sol B w w' := by
  have c1 := Lib.hid (rnum_any 4 4 rfl o B w (by omega) hB h)
  have hl := Sx.num_lt (n := 4) hB
  generalize Sx.num 4 o = v at *
  have hw : IntKind.u32.wrap v = v := by simp only [IntKind.wrap, IntKind.bits, IntKind.signed]; simp; omega
  clear hB h hl
  go_enter Try.func49, Try.ntmps49
  go_wp2_with (go_at_call 48; ((with_reducible refine (c1.out).mono ?_); rintro e w1 ⟨rfl, h1, h2⟩; have H1 := Lib.hid h1; have H2 := Lib.hid h2; clear h1 h2))
  go_ret
  exact ⟨by rw [IntKind.wrap_i32]; first | rfl | (unfold RowKit.wrap32; rfl), H1.out, H2.out⟩
theorem ship_built1 (x : Int) : Try.prog.built 24 [(0, .bool true), (1, .int .i32 x)] = some #[.bool true, .int .i32 x, .int .i32 0, .int .i32 0, .int .i32 0, .int .i64 0, .int .i64 0] := by kernel_rfl
theorem shot_built1 (x : Int) : Try.prog.built 88 [(0, .int .i64 x)] = some #[.int .i64 x, .int .i32 0, .int .i32 0, .int .i32 0, .int .i32 0, .int .i64 0] := by kernel_rfl
theorem shot_parts : ∃ i, Try.prog.info? 88 = some i ∧ i.zero = some (.agg #[.int .i64 0, .int .i32 0, .int .i32 0, .int .i32 0, .int .i32 0, .int .i64 0]) ∧ i.size = 6 ∧ i.bytes = 32 := by
  have h := shot_info
  cases hq : Try.prog.info? 88 with
  | none => rw [hq] at h; cases h
  | some i =>
    rw [hq] at h
    simp only [Option.map_some, Option.some.injEq, Prod.mk.injEq] at h
    exact ⟨i, rfl, h.1, h.2.1, h.2.2⟩
theorem shots1_fill (o x y vx vy l : Int) : Instr.fill (fun i => some (i * 6, 6)) ((Array.range (1 * 6)).map ((Value.agg #[.int .i64 0, .int .i32 0, .int .i32 0, .int .i32 0, .int .i32 0, .int .i64 0]).cells[· % (Value.agg #[.int .i64 0, .int .i32 0, .int .i32 0, .int .i32 0, .int .i32 0, .int .i64 0]).cells.size]!)) [(0, .agg #[.int .i64 o, .int .i32 x, .int .i32 y, .int .i32 vx, .int .i32 vy, .int .i64 l])] = some #[.int .i64 o, .int .i32 x, .int .i32 y, .int .i32 vx, .int .i32 vy, .int .i64 l] := by kernel_rfl
theorem shots1 (o x y vx vy l : Int) (W : World) : (Instr.buildSlice 26 1 #[(0, .agg #[.int .i64 o, .int .i32 x, .int .i32 y, .int .i32 vx, .int .i32 vy, .int .i64 l])]).run Try.prog W = .ok (.slice (some ⟨W.heap.size, 0, none⟩) 1 1) (W.alloc (.cells #[.int .i64 o, .int .i32 x, .int .i32 y, .int .i32 vx, .int .i32 vy, .int .i64 l] 88)) := by
  obtain ⟨i, hq, hz, hs, _⟩ := shot_parts
  exact run_buildSlice W _ _ 1 _ _ i _ Try.underlying26 hq hz (by rw [hs]; decide) (by rw [hs]; decide) (by rw [hs]; exact shots1_fill o x y vx vy l)
end Go.Proofs.Ytghomofakpjglaa
