/-
The document's own numbers in strings: as bytes of a string, and read from its front.
-/
import Derived.Test.YtbihnmingedgfaaNr
import Derived.Test.YtbihnmingedgfaaOc
import Derived.Lib.Bytes
namespace Sx
open Go Im
set_option linter.unusedVariables false
theorem str_append (a b : List Int) : strOfNums (a ++ b) = strOfNums a ++ strOfNums b := by
  apply ByteArray.ext
  simp [strOfNums, ByteArray.data_append]
theorem str_drop (l : List Int) (n : Nat) : (strOfNums l).extract n (strOfNums l).size = strOfNums (l.drop n) := by
  apply ByteArray.ext
  rw [strOfNums_size]
  simp [strOfNums, ByteArray.data_extract, List.map_drop]
  exact List.take_of_length_le (by simp)
theorem str_at {l : List Int} (hB : IsBytes l) (k : Nat) (h : k < l.length) (h' : k < (strOfNums l).size) : (((strOfNums l)[k]'h').toNat : Int) = l.getD k 0 := by
  have hb := hB.get k
  have e : (strOfNums l)[k]'h' = UInt8.ofNat (l.getD k 0).toNat := by
    show (strOfNums l).data[k]'h' = _
    simp [strOfNums, List.getD_eq_getElem?_getD, h]
  rw [e]
  have : (UInt8.ofNat (l.getD k 0).toNat).toNat = (l.getD k 0).toNat := by rw [UInt8.toNat_ofNat']; omega
  rw [this]; omega
theorem str_inj {a b : List Int} (ha : IsBytes a) (hb : IsBytes b) (h : strOfNums a = strOfNums b) : a = b := by
  have hl : a.length = b.length := by rw [← strOfNums_size, ← strOfNums_size, h]
  refine List.ext_getElem hl fun i h1 h2 => ?_
  have e1 := str_at ha i h1 (by rw [strOfNums_size]; exact h1)
  have e2 := str_at hb i h2 (by rw [strOfNums_size]; exact h2)
  have e3 : ((strOfNums a)[i]'(by rw [strOfNums_size]; exact h1)).toNat = ((strOfNums b)[i]'(by rw [strOfNums_size]; exact h2)).toNat := by congr 1; congr 1
  rw [List.getD_eq_getElem?_getD, List.getElem?_eq_getElem h1] at e1
  rw [List.getD_eq_getElem?_getD, List.getElem?_eq_getElem h2] at e2
  simp only [Option.getD_some] at e1 e2
  rw [← e1, ← e2, e3]
theorem str_toList (l : List Int) : (strOfNums l).toList = (strOfNums l).data.toList := Lib.toList_data _
theorem str_eq_iff {a b : List Int} (ha : IsBytes a) (hb : IsBytes b) : ((strOfNums a).toList == (strOfNums b).toList) = decide (a = b) := by
  by_cases h : a = b
  · subst h; simp
  · have : ¬ (strOfNums a).toList = (strOfNums b).toList := fun e => h (str_inj ha hb (ByteArray.ext (by rw [str_toList, str_toList] at e; exact Array.toList_inj.1 e)))
    rw [decide_eq_false h]; simpa using this
theorem val_shift (f : Nat → Int) : ∀ n, val f (n + 1) = f 0 + 256 * val (fun k => f (k + 1)) n
  | 0 => by simp [val]
  | n + 1 => by
    show val f (n + 1) + f (n + 1) * 2 ^ (8 * (n + 1)) = _
    rw [val_shift f n]
    show _ = f 0 + 256 * (val (fun k => f (k + 1)) n + f (n + 1) * 2 ^ (8 * n))
    have e : (2 : Int) ^ (8 * (n + 1)) = 2 ^ (8 * n) * 256 := by rw [show 8 * (n + 1) = 8 * n + 8 by omega, Int.pow_add]; rfl
    rw [e]
    generalize (2 : Int) ^ (8 * n) = p
    grind
theorem or_low (v x : Int) (hv : 0 ≤ v ∧ v < 2 ^ 56) (hx : 0 ≤ x ∧ x ≤ 255) : bits .or .u64 (v * 256) x = v * 256 + x := by
  obtain ⟨V, rfl⟩ := Int.eq_ofNat_of_zero_le hv.1
  obtain ⟨X, rfl⟩ := Int.eq_ofNat_of_zero_le hx.1
  have e : (V : Int) * 256 = ((256 * V : Nat) : Int) := by omega
  have hX : X < 2 ^ 8 := by omega
  have h2 : 256 * V ||| X = 256 * V + X := (Nat.two_pow_add_eq_or_of_lt hX V).symm
  rw [e, u64_or_nat _ _ (by omega) (by omega), h2]
  omega
/-- What a reader has left: none behind a fault. -/
def num (n : Nat) (o : Option (List Int)) : Int := ((o.bind (rdn n)).map (·.1)).getD 0
def rest (n : Nat) (o : Option (List Int)) : Option (List Int) := (o.bind (rdn n)).map (·.2)
theorem num_some {n : Nat} {l m : List Int} {v : Int} (h : rdn n l = some (v, m)) : num n (some l) = v ∧ rest n (some l) = some m := by unfold num rest; rw [Option.bind_some, h]; exact ⟨rfl, rfl⟩
theorem num_none {n : Nat} {l : List Int} (h : rdn n l = none) : num n (some l) = 0 ∧ rest n (some l) = none := by unfold num rest; rw [Option.bind_some, h]; exact ⟨rfl, rfl⟩
theorem num_bad (n : Nat) : num n none = 0 ∧ rest n none = none := ⟨rfl, rfl⟩
theorem num_lt {n : Nat} {o : Option (List Int)} (hB : ∀ l, o = some l → IsBytes l) : 0 ≤ num n o ∧ num n o < 2 ^ (8 * n) := by
  have hp : (0 : Int) < 2 ^ (8 * n) := Int.pow_pos (by decide)
  match o with
  | none => exact ⟨Int.le_refl _, hp⟩
  | some l =>
    cases h : rdn n l with
    | none => rw [(num_none h).1]; exact ⟨Int.le_refl _, hp⟩
    | some q =>
      have h' : rdn n l = some (q.1, q.2) := h
      rw [(num_some h').1]
      obtain ⟨_, h1, h2, _⟩ := rdn_inv (hB l rfl) h'
      exact ⟨h1, h2⟩
theorem rest_bytes {n : Nat} {o : Option (List Int)} (hB : ∀ l, o = some l → IsBytes l) : ∀ l, rest n o = some l → IsBytes l := fun l h => by
  match o with
  | none => cases h
  | some m =>
    cases hr : rdn n m with
    | none => rw [(num_none hr).2] at h; cases h
    | some q =>
      have hr' : rdn n m = some (q.1, q.2) := hr
      rw [(num_some hr').2] at h
      injection h with h
      subst h
      exact (rdn_inv (hB m rfl) hr').2.2.2
end Sx
namespace Go.Proofs.Ytbihnmingedgfaa
open Go.RowKit Go.Shelf
set_option linter.unusedVariables false
set_option linter.unusedSimpArgs false

/-- Everything stays but block B. -/
structure Sol (B : Nat) (w w' : World) : Prop where
  os : w'.os = w.os
  tape : w'.tape = w.tape
  output : w'.output = w.output
  size : w.heap.size ≤ w'.heap.size
  block : ∀ k, k < w.heap.size → k ≠ B → w'.heap[k]? = w.heap[k]?
section
variable {B b : Nat} {w w' w'' : World}
theorem Sol.refl (B : Nat) (w : World) : Sol B w w := ⟨rfl, rfl, rfl, Nat.le_refl _, fun _ _ _ => rfl⟩
theorem Sol.trans (h : Sol B w w') (k : Sol B w' w'') : Sol B w w'' := ⟨k.os.trans h.os, k.tape.trans h.tape, k.output.trans h.output, Nat.le_trans h.size k.size, fun i hi hne => (k.block i (Nat.lt_of_lt_of_le hi h.size) hne).trans (h.block i hi hne)⟩
theorem Sol.put (h : Sol B w w') (i : Nat) (u : Value) : Sol B w (w'.setCell ⟨B, i, none⟩ u) := by
  have hz := (Below.refl 0 w').setCell (p := ⟨B, i, none⟩) (Nat.zero_le _) u
  exact h.trans ⟨hz.os, hz.tape, hz.output, hz.size, fun k hk hne => heap_setCell_other w' ⟨B, i, none⟩ k u hne⟩
theorem Sol.call (h : Sol B w w') (hb : Below w'.heap.size w' w'') : Sol B w w'' := h.trans ⟨hb.os, hb.tape, hb.output, hb.size, fun k hk _ => hb.block k hk⟩
theorem Sol.fresh (h : Sol B w w') {p : Addr} (hp : w.heap.size ≤ p.block) (u : Value) : Sol B w (w'.setCell p u) := by
  have hz := (Below.refl 0 w').setCell (p := p) (Nat.zero_le _) u
  exact ⟨hz.os.trans h.os, hz.tape.trans h.tape, hz.output.trans h.output, Nat.le_trans h.size hz.size, fun k hk hne => (heap_setCell_other w' p k u (by omega)).trans (h.block k hk hne)⟩
theorem Sol.freshRow (h : Sol B w w') {g : Nat} (hp : w.heap.size ≤ g) (cs : Array Value) : Sol B w (w'.setRow g cs) := by
  have hz := Below.setRow' (g := g) (Below.refl 0 w') (Nat.zero_le _) cs
  exact ⟨hz.os.trans h.os, hz.tape.trans h.tape, hz.output.trans h.output, Nat.le_trans h.size hz.size, fun k hk hne => (setRow_other w' g k cs (by omega)).trans (h.block k hk hne)⟩
theorem Sol.below (h : Sol B w w') (hb : b ≤ B) (hs : b ≤ w.heap.size) : Below b w w' := ⟨h.os, h.tape, h.output, h.size, fun i hi => h.block i (by omega) (by omega)⟩
theorem Box.sol {g : Nat} {t : TypeId} {cs : Array Value} (h : Box w g t cs) (k : Sol B w w') (hne : g ≠ B) : Box w' g t cs := ⟨(k.block g h.lt hne).trans h.is⟩
end
/-- The document's reader: what is left of its bytes, or that it is bad. -/
def RIs (w : World) (B : Nat) : Option (List Int) → Prop
  | none => ∃ s : ByteArray, Box w B 127 #[.string s, .bool true]
  | some l => Box w B 127 #[.string (strOfNums l), .bool false]
section
variable {B : Nat} {w w' : World} {o : Option (List Int)}
theorem RIs.box (h : RIs w B o) : ∃ s b, Box w B 127 #[.string s, .bool b] := by
  match o with
  | none => obtain ⟨s, h⟩ := h; exact ⟨s, _, h⟩
  | some l => exact ⟨_, _, h⟩
theorem RIs.lt (h : RIs w B o) : B < w.heap.size := by obtain ⟨s, b, h⟩ := h.box; exact h.lt
theorem RIs.stays (h : RIs w B o) (hk : w'.heap[B]? = w.heap[B]?) : RIs w' B o := by
  match o with
  | none => obtain ⟨s, h⟩ := h; exact ⟨s, ⟨hk.trans h.is⟩⟩
  | some l => exact (⟨hk.trans (show Box w B _ _ from h).is⟩ : Box w' B 127 #[.string (strOfNums l), .bool false])
theorem RIs.below {b : Nat} (h : RIs w B o) (hb : Below b w w') (hB : B < b) : RIs w' B o := h.stays (hb.block B hB)
theorem RIs.alloc (h : RIs w B o) (x : Obj) : RIs (w.alloc x) B o := h.below (one_below w x) h.lt
theorem RIs.apart {g : Nat} {t : TypeId} {cs : Array Value} (h : RIs w B o) (hg : Box w g t cs) (ht : t ≠ 127) : g ≠ B := by
  obtain ⟨s, b, h⟩ := h.box
  exact Box.apart hg h ht
theorem RIs.off {p : Addr} {t : TypeId} {cs : Array Value} (h : RIs w B o) (hg : Box w p.block t cs) (ht : t ≠ 127) (u : Value) : RIs (w.setCell p u) B o :=
  h.stays (heap_setCell_other w p B u (fun e => h.apart hg ht e.symm))
theorem RIs.offRow {g : Nat} {t : TypeId} {cs : Array Value} (h : RIs w B o) (hg : Box w g t cs) (ht : t ≠ 127) (cs' : Array Value) : RIs (w.setRow g cs') B o :=
  h.stays (setRow_other w g B cs' (fun e => h.apart hg ht e.symm))
theorem RIs.bad (h : RIs w B o) : RIs (w.setCell ⟨B, 1, none⟩ (.bool true)) B none := by
  obtain ⟨s, b, h⟩ := h.box
  exact ⟨s, h.put 1 _⟩
end

theorem below_gone {B : Nat} {w0 w w' : World} {row : Option Nat} (h : Below B w0 w) (hg : w.grownBy w' row) (hr : ∀ r, row = some r → B ≤ r) (hB : B ≤ w0.heap.size) : Below B w0 w' :=
  ⟨hg.os.trans h.os, hg.tape.trans h.tape, hg.output.trans h.output, Nat.le_trans h.size hg.size, fun i hi => (hg.block i (Nat.lt_of_lt_of_le hi (Nat.le_trans hB h.size)) (fun e => by have := hr i e.symm; omega)).trans (h.block i hi)⟩
theorem own_at {w : World} {base : Nat} {e : TypeId} {size n : Nat} {v : Value} {xs : List Value} (h : w.ownsRow base e size v n xs) : ∀ r, v.ownBlock = some r → base ≤ r := fun r hr => by
  obtain ⟨_, ⟨rfl, _⟩ | ⟨g, cap, cur, rfl, hbg, _⟩⟩ := h
  · cases hr
  · have e' : g = r := by injection hr
    omega
set_option maxRecDepth 100000 in
set_option maxHeartbeats 4000000 in
theorem rnum_any (n : Nat) (z : Int) (hz : z = n) (o : Option (List Int)) (B : Nat) (w : World) (hn : 1 ≤ n ∧ n ≤ 8) (hB : ∀ l, o = some l → Im.IsBytes l) (h : RIs w B o) :
    Calls Try.prog 86 #[.pointer (some ⟨B, 0, none⟩), .int .i64 z] w fun e w' => e = .returned (.int .u64 (Sx.num n o)) ∧ RIs w' B (Sx.rest n o) ∧ Sol B w w' := by
  match o with
  | none =>
    obtain ⟨s, hs⟩ := h
    have c0 := hs.cell 0
    have c1 := hs.cell 1
    have f0 := hs.free 0
    have f1 := hs.free 1
    have HB := Lib.hid hs
    clear hs hB
    go_enter Try.func86, Try.ntmps86
    go_wp2
    go_ret
    exact ⟨rfl, ⟨_, (HB.out.put 1 (.bool true)).put 0 (.string ⟨#[]⟩)⟩, ((Sol.refl B w).put 1 _).put 0 _⟩
  | some l =>
    have hs : Box w B 127 #[.string (strOfNums l), .bool false] := h
    have c0 := hs.cell 0
    have c1 := hs.cell 1
    have f0 := hs.free 0
    have f1 := hs.free 1
    have HB := Lib.hid hs
    have hsz := strOfNums_size l
    clear h hs
    by_cases hlt : l.length < n
    · have hr := Im.rdn_few hlt
      obtain ⟨e1, e2⟩ := Sx.num_none hr
      rw [e1, e2]
      have hlz : (l.length : Int) < z := by omega
      generalize strOfNums l = s at *
      clear e1 e2 hr hB
      go_enter Try.func86, Try.ntmps86
      go_wp2
      go_ret
      exact ⟨rfl, ⟨_, (HB.out.put 1 (.bool true)).put 0 (.string ⟨#[]⟩)⟩, ((Sol.refl B w).put 1 _).put 0 _⟩
    · have hlz : ¬ (l.length : Int) < z := by omega
      have hr : Im.rdn n l = some (Im.val (fun k => l.getD k 0) n, l.drop n) := by unfold Im.rdn; rw [if_pos (by omega)]
      obtain ⟨e1, e2⟩ := Sx.num_some hr
      rw [e1, e2]
      have hby := hB l rfl
      have HX := Lib.hid (Sx.str_drop l n)
      have HAT := Lib.hid (fun k (hk : k < l.length) h' => Sx.str_at hby k hk h')
      have HGET := Lib.hid (fun k => hby.get k)
      generalize strOfNums l = s at *
      clear e1 e2 hr hB
      go_enter Try.func86, Try.ntmps86
      go_wp2
      go_loopw [5, 6] (fun v i wr => ∃ m : Nat, m ≤ n ∧ i = .int .i64 ((m : Int) - 1) ∧ v = .int .u64 (Im.val (fun k => l.getD (m + k) 0) (n - m)) ∧ w = wr) (fun _ i _ => (intOf i + 1).toNat)
      case atStart => exact ⟨n, by omega, by subst hz; rfl, by rw [Nat.sub_self]; rfl, rfl⟩
      case round =>
        obtain ⟨m, hm, rfl, rfl, rfl⟩ := hrel
        by_cases h0 : 0 < m
        · obtain ⟨q, rfl⟩ : ∃ q, m = q + 1 := ⟨m - 1, by omega⟩
          have hge : (0 : Int) ≤ ((q + 1 : Nat) : Int) - 1 := by omega
          have hvl := Im.val_lt (fun k => l.getD (q + 1 + k) 0) (fun k => HGET.out _) (n - (q + 1))
          have hp : (2 : Int) ^ (8 * (n - (q + 1))) ≤ 2 ^ 56 := by
            have := Nat.pow_le_pow_right (show 0 < 2 by decide) (show 8 * (n - (q + 1)) ≤ 56 by omega)
            exact_mod_cast this
          have hq8 : q < l.length := by omega
          have hx := HAT.out q hq8 (by omega)
          have hxb := HGET.out q
          have hnext : Im.val (fun k => l.getD (q + k) 0) (n - q) = Im.val (fun k => l.getD (q + 1 + k) 0) (n - (q + 1)) * 256 + l.getD q 0 := by
            rw [show n - q = (n - (q + 1)) + 1 by omega, Sx.val_shift]
            rw [show (fun k => l.getD (q + (k + 1)) 0) = fun k => l.getD (q + 1 + k) 0 from funext fun k => by rw [show q + (k + 1) = q + 1 + k by omega]]
            simp only [Nat.add_zero]
            omega
          have HN := Lib.hid hnext
          generalize Im.val (fun k => l.getD (q + 1 + k) 0) (n - (q + 1)) = v at *
          generalize l.getD q 0 = x at *
          have hq1 : ((q + 1 : Nat) : Int) - 1 = q := by omega
          have hor := Sx.or_low v x ⟨hvl.1, by omega⟩ hxb
          have hwv : IntKind.u64.wrap (v * 256) = v * 256 := by rw [IntKind.wrap_u64]; omega
          rw [hq1] at hge ⊢
          clear hnext hp hlz c1 f1
          go_wp2
          go_roundw
          case rel => exact ⟨q, by omega, rfl, by rw [HN.out], by first | rfl | trivial⟩
          case measure => simp [intOf] <;> omega
        · obtain rfl : m = 0 := by omega
          have hx2 : s.extract n l.length = strOfNums (l.drop n) := by rw [← hsz]; exact HX.out
          have hzn : z.toNat = n := by omega
          have hz0 : 0 ≤ z := by omega
          have hz1 : z ≤ (s.size : Int) := by omega
          clear HAT HGET
          go_wp2
          go_ret
          refine ⟨?_, HB.out.put 0 (.string (strOfNums (l.drop n))), (Sol.refl B w).put 0 _⟩
          show Ending.returned (.int .u64 (Im.val (fun k => l.getD (0 + k) 0) (n - 0))) = _
          rw [Nat.sub_zero, Im.val_congr (g := fun k => l.getD k 0) n (fun k _ => by rw [Nat.zero_add])]

set_option maxRecDepth 100000 in
theorem rint_any (n : Nat) (z : Int) (hz : z = n) (o : Option (List Int)) (B : Nat) (w : World) (hn : 1 ≤ n ∧ n ≤ 4) (hB : ∀ l, o = some l → Im.IsBytes l) (h : RIs w B o) :
    Calls Try.prog 85 #[.pointer (some ⟨B, 0, none⟩), .int .i64 z] w fun e w' => e = .returned (.int .i64 (Sx.num n o)) ∧ RIs w' B (Sx.rest n o) ∧ Sol B w w' := by
  subst hz
  have c1 := Lib.hid (rnum_any n n rfl o B w (by omega) hB h)
  have hl := Sx.num_lt (n := n) hB
  have hp : (2 : Int) ^ (8 * n) ≤ 2 ^ 32 := by
    have := Nat.pow_le_pow_right (show 0 < 2 by decide) (show 8 * n ≤ 32 by omega)
    exact_mod_cast this
  generalize Sx.num n o = v at *
  have hw : IntKind.i64.wrap v = v := by rw [IntKind.wrap_i64]; omega
  clear hB h hl hp
  go_enter Try.func85, Try.ntmps85
  go_wp2_with (go_at_call 86; ((with_reducible refine (c1.out).mono ?_); rintro e w1 ⟨rfl, h1, h2⟩; have H1 := Lib.hid h1; have H2 := Lib.hid h2; clear h1 h2))
  go_ret
  exact ⟨rfl, H1.out, H2.out⟩
def Sx.ended : Option (List Int) → Bool
  | some [] => true
  | _ => false
set_option maxRecDepth 100000 in
theorem rend_any (o : Option (List Int)) (B : Nat) (w : World) (hB : ∀ l, o = some l → Im.IsBytes l) (h : RIs w B o) :
    Calls Try.prog 88 #[.pointer (some ⟨B, 0, none⟩)] w fun e w' => e = .returned (.bool (Sx.ended o)) ∧ w = w' := by
  match o with
  | none =>
    obtain ⟨s, hs⟩ := h
    have c0 := hs.cell 0
    have c1 := hs.cell 1
    clear hs hB
    go_enter Try.func88, Try.ntmps88
    go_wp2
    go_ret
    exact ⟨rfl, rfl⟩
  | some l =>
    have hs : Box w B 127 #[.string (strOfNums l), .bool false] := h
    have c0 := hs.cell 0
    have c1 := hs.cell 1
    have he : ((strOfNums l).toList == (⟨#[]⟩ : ByteArray).toList) = Sx.ended (some l) := by
      rw [show (⟨#[]⟩ : ByteArray) = strOfNums [] from rfl, Sx.str_eq_iff (hB l rfl) Im.IsBytes.nil]
      cases l <;> rfl
    have he2 : (strOfNums l).toList.isEmpty = Sx.ended (some l) := by
      rw [← he]
      rw [show (⟨#[]⟩ : ByteArray).toList = [] from Lib.toList_data _]
      cases (strOfNums l).toList <;> rfl
    generalize Sx.ended (some l) = r at *
    generalize strOfNums l = s at *
    clear hs h hB
    go_enter Try.func88, Try.ntmps88
    go_wp2
    go_ret
    exact ⟨rfl, rfl⟩

/-! Numbers are put. -/
set_option maxRecDepth 100000 in
set_option maxHeartbeats 4000000 in
theorem refput_num (size : Nat) (z v : Int) (hz : z = size) (w : World) (hs : size ≤ 8) (hv : 0 ≤ v ∧ v ≤ 18446744073709551615) :
    Calls Try.prog 81 #[.int .u64 v, .int .i64 z] w fun e w' => e = .returned (.string (strOfNums (Im.bytesOf size v))) ∧ Below w.heap.size w w' := by
  subst hz
  go_enter Try.func81, Try.ntmps81
  go_wp2
  go_loopw [5, 6] (fun l i wr => ∃ k : Nat, k ≤ size ∧ i = .int .i64 k ∧ wr.ownsRow w.heap.size 5 1 l k (Im.u8s (Im.bytesOf k v)) ∧ Below w.heap.size w wr) (fun _ i _ => size - (intOf i).toNat)
  case atStart => exact ⟨0, by omega, rfl, ⟨rfl, .inl ⟨rfl, rfl⟩⟩, Below.refl _ _⟩
  case round =>
    obtain ⟨k, hk, rfl, hO, hb⟩ := hrel
    obtain ⟨A, c, rfl⟩ := owned_slice hO
    by_cases hlt : k < size
    · have hk8 : (k : Int) < size := by omega
      have h8 : IntKind.i64.wrap (8 * (k : Int)) = 8 * k := by rw [IntKind.wrap_i64]; omega
      have h9 : IntKind.u64.wrap (8 * (k : Int)) = 8 * k := by rw [IntKind.wrap_u64]; omega
      have hsn : Im.u8s (Im.bytesOf (k + 1) v) = Im.u8s (Im.bytesOf k v) ++ Im.u8s [v / 2 ^ (8 * k) % 256] := by rw [← Im.u8s_append]; rfl
      have HSN := Lib.hid hsn
      have HO := Lib.hid hO
      have HB := Lib.hid hb
      have sz := hb.size
      obtain ⟨i0, hi0, hz0, hz1, hz2⟩ := u8_parts
      have hI := Lib.hid hi0
      have hZ := Lib.hid hz0
      have hS := Lib.hid hz1
      have hY := Lib.hid hz2
      clear hsn hO hb hi0 hz0 hz1 hz2
      go_wp2_with ((with_reducible refine append_gate (t := 54) (e := 5) (size := 1) (bytes := 1) rfl rfl Try.underlying54 hI.out hZ.out hS.out hY.out rfl (by decide) ?_); refine Appends.mk (base := w.heap.size) (n := k) (xs := Im.u8s (Im.bytesOf k v)) rfl (HO.out.alloc _) (lies_byte wr (v / 2 ^ (8 * k) % 256)) (Im.u8s_one _) (by unfold maxLen; omega) (by omega) (by simp; omega) ?_; intro A3 c3 w3 own3 hg3; have O3 := Lib.hid own3; have K3 := Lib.hid (below_gone (HB.out.alloc sz _) hg3 (own_at (HO.out)) (Nat.le_refl _)); clear own3 hg3)
      go_roundw
      case rel => exact ⟨k + 1, by omega, by go_num, by rw [HSN.out]; exact O3.out, K3.out⟩
      case measure => simp [intOf]; omega
    · have hk8 : ¬ (k : Int) < size := by omega
      obtain rfl : k = size := by omega
      have hcv := conv_bytes (Im.bytesOf k v) k A c wr _ (Im.bytesOf_len _ _) (Lies.owned hO)
      have HB := Lib.hid hb
      clear hO hb
      go_wp2
      go_ret
      exact ⟨rfl, HB.out⟩
end Go.Proofs.Ytbihnmingedgfaa
