/-
Several texts in one: Ed Bd Op Ec Ee Ls Yb Ye Gb Hh Fi Ew Ez.
-/
import Derived.Test.YtgmlbimgcifenaaVz3
set_option maxRecDepth 100000
set_option maxHeartbeats 8000000
set_option linter.unusedVariables false
set_option linter.unusedSimpArgs false
namespace En
open Go Im
def decEv (bs : List Int) : Option (Ev × List Int) :=
  (rdn 1 bs).bind fun k => (rdn 1 k.2).bind fun s => (rdn 2 s.2).bind fun g => (rdn 1 g.2).bind fun p => some (⟨k.1, s.1, g.1, p.1⟩, p.2)
def decEvs : Nat → List Ev → List Int → Option (List Ev × List Int)
  | 0, l, bs => some (l, bs)
  | n + 1, l, bs => (decEv bs).bind fun q => decEvs n (l ++ [q.1]) q.2
def decEvents (bs : List Int) : Option (List Ev × List Int) := (rdn 1 bs).bind fun n => decEvs n.1.toNat [] n.2
def decIn (bs : List Int) : Option (Gm.In × List Int) :=
  (rdn 1 bs).bind fun x => (rdn 1 x.2).bind fun y => (rdn 1 y.2).bind fun b => if zero ⟨IntKind.i8.wrap x.1, IntKind.i8.wrap y.1, b.1⟩ then none else some (⟨IntKind.i8.wrap x.1, IntKind.i8.wrap y.1, b.1⟩, b.2)
def decIns (m : Nat) : Nat → Nat → (Nat → Gm.In) → List Int → Option ((Nat → Gm.In) × List Int)
  | _, 0, f, bs => some (f, bs)
  | k, n + 1, f, bs => if m.testBit k then (decIn bs).bind fun q => decIns m (k + 1) n (upd f k q.1) q.2 else decIns m (k + 1) n f bs
def in0 : Nat → Gm.In := fun _ => ⟨0, 0, 0⟩
def decInputs (f : Nat → Gm.In) (bs : List Int) : Option ((Nat → Gm.In) × List Int) := (rdn 1 bs).bind fun m => decIns m.1.toNat 0 8 f m.2
def dec (bs : List Int) : Option (E × List Int) :=
  (rdn 4 bs).bind fun a => (decEvents a.2).bind fun l => (decInputs in0 l.2).bind fun f => some (⟨a.1, l.1, f.1⟩, f.2)
def get (bs : List Int) : Option E := (dec bs).bind fun q => if q.2 = [] ∧ Ok q.1 then some q.1 else none
theorem mod1 {x : Int} (h : 0 ≤ x ∧ x < 256) : x % 2 ^ (8 * 1) = x := by omega
theorem decEv_put {v : Ev} (h : evOk v) (rest : List Int) : decEv (evBytes v ++ rest) = some (v, rest) := by
  obtain ⟨h1, h2, h3, h4⟩ := h
  unfold decEv evBytes
  rw [List.append_assoc, rdn_bytes, Option.bind_some, List.append_assoc, rdn_bytes, Option.bind_some, List.append_assoc, rdn_bytes, Option.bind_some, rdn_bytes, Option.bind_some]
  dsimp only
  rw [mod1 (by omega), mod1 (by omega), mod1 (by omega), show v.gen % 2 ^ (8 * 2) = v.gen by omega]
theorem decEvs_put : ∀ (l : List Ev) (a : List Ev) (rest : List Int), (∀ v ∈ l, evOk v) → decEvs l.length a (evsBytes l ++ rest) = some (a ++ l, rest)
  | [], a, rest, _ => by simp [decEvs, evsBytes]
  | v :: l, a, rest, h => by
    have e : evsBytes (v :: l) ++ rest = evBytes v ++ (evsBytes l ++ rest) := by simp [evsBytes]
    rw [e]
    show (decEv (evBytes v ++ (evsBytes l ++ rest))).bind _ = _
    rw [decEv_put (h v (by simp)), Option.bind_some, decEvs_put l (a ++ [v]) rest fun u hu => h u (by simp [hu])]
    simp
theorem decIn_put {p : Gm.In} (h : Gm.tyIn p) (hz : zero p = false) (rest : List Int) : decIn (inBytes p ++ rest) = some (p, rest) := by
  obtain ⟨h1, h2, h3⟩ := h
  unfold decIn inBytes
  rw [List.append_assoc, rdn_bytes, Option.bind_some, List.append_assoc, rdn_bytes, Option.bind_some, rdn_bytes, Option.bind_some]
  dsimp only
  have e1 : IntKind.i8.wrap (p.x % 2 ^ (8 * 1)) = p.x := by rw [Im.wrap_i8]; omega
  have e2 : IntKind.i8.wrap (p.y % 2 ^ (8 * 1)) = p.y := by rw [Im.wrap_i8]; omega
  rw [e1, e2, mod1 (by omega), hz]
  rfl
theorem zero_is {p : Gm.In} (h : zero p = true) : p = ⟨0, 0, 0⟩ := by
  unfold zero at h
  have := of_decide_eq_true h
  obtain ⟨x, y, b⟩ := p
  dsimp only at this
  obtain ⟨rfl, rfl, rfl⟩ := this
  rfl
def insFrom (f : Nat → Gm.In) : Nat → Nat → List Int
  | _, 0 => []
  | k, n + 1 => (if zero (f k) then [] else inBytes (f k)) ++ insFrom f (k + 1) n
theorem ins_from (f : Nat → Gm.In) : ∀ (n k : Nat), insBytes f k ++ insFrom f k n = insBytes f (k + n)
  | 0, k => by simp [insFrom]
  | n + 1, k => by
    show insBytes f k ++ ((if zero (f k) then [] else inBytes (f k)) ++ insFrom f (k + 1) n) = _
    rw [← List.append_assoc]
    have := ins_from f n (k + 1)
    rw [show k + 1 + n = k + (n + 1) by omega] at this
    exact this
theorem decIns_put (m : Nat) (f : Nat → Gm.In) : ∀ (n k : Nat) (g : Nat → Gm.In) (rest : List Int), (∀ i, k ≤ i → i < k + n → m.testBit i = !zero (f i)) → (∀ i, k ≤ i → i < k + n → Gm.tyIn (f i) ∧ g i = ⟨0, 0, 0⟩) →
    ∃ f', decIns m k n g (insFrom f k n ++ rest) = some (f', rest) ∧ (∀ i, k ≤ i → i < k + n → f' i = f i) ∧ (∀ i, i < k ∨ k + n ≤ i → f' i = g i)
  | 0, k, g, rest, _, _ => ⟨g, rfl, fun i _ _ => by omega, fun _ _ => rfl⟩
  | n + 1, k, g, rest, hm, ht => by
    have hk := hm k (by omega) (by omega)
    unfold decIns insFrom
    cases hz : zero (f k)
    · rw [hz] at hk
      rw [hk]
      simp only [Bool.not_false, if_true, Bool.false_eq_true, if_false, List.append_assoc]
      rw [decIn_put (ht k (by omega) (by omega)).1 hz, Option.bind_some]
      obtain ⟨f', h1, h2, h3⟩ := decIns_put m f n (k + 1) (upd g k (f k)) rest (fun i a b => hm i (by omega) (by omega)) fun i a b => ⟨(ht i (by omega) (by omega)).1, by rw [upd_other _ _ (by omega)]; exact (ht i (by omega) (by omega)).2⟩
      refine ⟨f', h1, fun i a b => ?_, fun i a => ?_⟩
      · by_cases e : i = k
        · subst e; rw [h3 i (by omega), upd_same]
        · exact h2 i (by omega) (by omega)
      · rw [h3 i (by omega), upd_other _ _ (by omega)]
    · rw [hz] at hk
      rw [hk]
      simp only [Bool.not_true, Bool.false_eq_true, if_false, if_true, List.nil_append]
      obtain ⟨f', h1, h2, h3⟩ := decIns_put m f n (k + 1) g rest (fun i a b => hm i (by omega) (by omega)) fun i a b => ht i (by omega) (by omega)
      refine ⟨f', h1, fun i a b => ?_, fun i a => h3 i (by omega)⟩
      by_cases e : i = k
      · subst e; rw [h3 i (by omega), (ht i (by omega) (by omega)).2, zero_is hz]
      · exact h2 i (by omega) (by omega)
theorem dec_put {e : E} (h : Ok e) (ht : Ty e) (rest : List Int) : ∃ e', dec (put e ++ rest) = some (e', rest) ∧ Like e e' := by
  have hm := mask_lt e.inp 8
  have hc := h.count
  have e8 := ins_from e.inp 8 0
  rw [show 0 + 8 = 8 from rfl] at e8
  obtain ⟨f', h1, h2, _⟩ := decIns_put (mask e.inp 8) e.inp 8 0 in0 rest (fun i _ hi => mask_bit e.inp 8 i (by omega)) fun i _ hi => ⟨ht.ins i (by omega), rfl⟩
  have hfr := h.frame
  refine ⟨⟨e.frame, e.evs, f'⟩, ?_, rfl, rfl, fun i hi => (h2 i (Nat.zero_le _) (by omega)).symm⟩
  unfold dec put decEvents decInputs
  rw [← e8]
  simp only [List.append_assoc, rdn_bytes, Option.bind_some]
  rw [show (e.evs.length : Int) % 2 ^ (8 * 1) = e.evs.length by omega, Int.toNat_natCast, decEvs_put _ _ _ (row_mem _ _ h.row)]
  simp only [Option.bind_some, rdn_bytes]
  rw [show ((mask e.inp 8 : Nat) : Int) % 2 ^ (8 * 1) = (mask e.inp 8 : Nat) by omega, Int.toNat_natCast]
  have e0 : insBytes e.inp 0 = [] := rfl
  rw [e0, List.nil_append, h1]
  simp only [Option.bind_some, List.nil_append]
  rw [show e.frame % 2 ^ (8 * 4) = e.frame by omega]
theorem decEv_inv {bs rest : List Int} {v : Ev} (hB : IsBytes bs) (h : decEv bs = some (v, rest)) : bs = evBytes v ++ rest ∧ IsBytes rest ∧ tyEv v := by
  unfold decEv at h
  obtain ⟨⟨k, b1⟩, h1, h⟩ := Option.bind_eq_some_iff.1 h
  obtain ⟨⟨s, b2⟩, h2, h⟩ := Option.bind_eq_some_iff.1 h
  obtain ⟨⟨g, b3⟩, h3, h⟩ := Option.bind_eq_some_iff.1 h
  obtain ⟨⟨p, b4⟩, h4, h⟩ := Option.bind_eq_some_iff.1 h
  injection h with h
  injection h with e1 e2
  subst e1 e2
  obtain ⟨rfl, x1, y1, B1⟩ := rdn_inv hB h1
  obtain ⟨rfl, x2, y2, B2⟩ := rdn_inv B1 h2
  obtain ⟨rfl, x3, y3, B3⟩ := rdn_inv B2 h3
  obtain ⟨rfl, x4, y4, B4⟩ := rdn_inv B3 h4
  refine ⟨?_, B4, ?_⟩
  · unfold evBytes
    simp only [List.append_assoc]
  · unfold tyEv i64
    (try dsimp only at *)
    omega
theorem decEvs_inv : ∀ (n : Nat) (a l : List Ev) (bs rest : List Int), IsBytes bs → decEvs n a bs = some (l, rest) → ∃ l', l = a ++ l' ∧ l'.length = n ∧ bs = evsBytes l' ++ rest ∧ IsBytes rest ∧ ∀ v ∈ l', tyEv v
  | 0, a, l, bs, rest, hB, h => by
    unfold decEvs at h
    injection h with h
    injection h with e1 e2
    subst e1 e2
    exact ⟨[], by simp, rfl, rfl, hB, fun _ h => by cases h⟩
  | n + 1, a, l, bs, rest, hB, h => by
    unfold decEvs at h
    obtain ⟨⟨v, b1⟩, h1, hq⟩ := Option.bind_eq_some_iff.1 h
    clear h
    obtain ⟨rfl, B1, t1⟩ := decEv_inv hB h1
    obtain ⟨l', rfl, h2, h3, B2, t2⟩ := decEvs_inv n _ l _ rest B1 hq
    subst h3
    refine ⟨v :: l', by simp, by simp [h2], by simp [evsBytes], B2, fun u hu => ?_⟩
    rcases List.mem_cons.1 hu with rfl | hu
    · exact t1
    · exact t2 u hu
theorem decIn_inv {bs rest : List Int} {p : Gm.In} (hB : IsBytes bs) (h : decIn bs = some (p, rest)) : bs = inBytes p ++ rest ∧ IsBytes rest ∧ Gm.tyIn p ∧ zero p = false := by
  unfold decIn at h
  obtain ⟨⟨x, b1⟩, h1, h⟩ := Option.bind_eq_some_iff.1 h
  obtain ⟨⟨y, b2⟩, h2, h⟩ := Option.bind_eq_some_iff.1 h
  obtain ⟨⟨b, b3⟩, h3, h⟩ := Option.bind_eq_some_iff.1 h
  dsimp only at h
  split at h
  · cases h
  · rename_i hz
    injection h with h
    injection h with e1 e2
    subst e1 e2
    obtain ⟨rfl, x1, y1, B1⟩ := rdn_inv hB h1
    obtain ⟨rfl, x2, y2, B2⟩ := rdn_inv B1 h2
    obtain ⟨rfl, x3, y3, B3⟩ := rdn_inv B2 h3
    refine ⟨?_, B3, ?_, by simpa using hz⟩
    · have e : ∀ z : Int, bytesOf 1 (IntKind.i8.wrap z) = bytesOf 1 z := fun z => by
        unfold bytesOf bytesOf
        rw [Im.wrap_i8]
        simp only [Nat.mul_zero, List.nil_append, List.cons.injEq, and_true]
        omega
      unfold inBytes
      simp only [List.append_assoc, e]
    · unfold Gm.tyIn
      (try dsimp only at *)
      rw [Im.wrap_i8, Im.wrap_i8]
      omega
theorem decIns_inv (m : Nat) : ∀ (n k : Nat) (g f : Nat → Gm.In) (bs rest : List Int), IsBytes bs → (∀ i, k ≤ i → i < k + n → g i = ⟨0, 0, 0⟩) → decIns m k n g bs = some (f, rest) →
    bs = insFrom f k n ++ rest ∧ IsBytes rest ∧ (∀ i, k ≤ i → i < k + n → (!zero (f i)) = m.testBit i ∧ Gm.tyIn (f i)) ∧ ∀ i, i < k ∨ k + n ≤ i → f i = g i
  | 0, k, g, f, bs, rest, hB, hg, h => by
    unfold decIns at h
    injection h with h
    injection h with e1 e2
    subst e1 e2
    exact ⟨rfl, hB, fun i _ _ => by omega, fun _ _ => rfl⟩
  | n + 1, k, g, f, bs, rest, hB, hg, h => by
    unfold decIns at h
    cases hb : m.testBit k
    · rw [hb] at h
      simp only [Bool.false_eq_true, if_false] at h
      obtain ⟨h1, B1, h2, h3⟩ := decIns_inv m n (k + 1) g f bs rest hB (fun i a b => hg i (by omega) (by omega)) h
      have hk : f k = ⟨0, 0, 0⟩ := (h3 k (by omega)).trans (hg k (by omega) (by omega))
      refine ⟨?_, B1, fun i a b => ?_, fun i a => h3 i (by omega)⟩
      · rw [h1]
        conv => rhs; unfold insFrom
        rw [hk]
        rfl
      · by_cases e : i = k
        · subst e
          rw [hk, hb]
          exact ⟨rfl, by unfold Gm.tyIn; dsimp only; omega⟩
        · exact h2 i (by omega) (by omega)
    · rw [hb] at h
      simp only [if_true] at h
      obtain ⟨⟨p, b1⟩, h1, hq⟩ := Option.bind_eq_some_iff.1 h
      clear h
      obtain ⟨rfl, B1, t1, z1⟩ := decIn_inv hB h1
      obtain ⟨h2, B2, h3, h4⟩ := decIns_inv m n (k + 1) (upd g k p) f b1 rest B1 (fun i a b => by rw [upd_other _ _ (by omega)]; exact hg i (by omega) (by omega)) hq
      have hk : f k = p := (h4 k (by omega)).trans (upd_same _ _ _)
      refine ⟨?_, B2, fun i a b => ?_, fun i a => ?_⟩
      · rw [h2]
        conv => rhs; unfold insFrom
        rw [hk, z1]
        simp
      · by_cases e : i = k
        · subst e
          rw [hk, hb, z1]
          exact ⟨rfl, t1⟩
        · exact h3 i (by omega) (by omega)
      · rw [h4 i (by omega), upd_other _ _ (by omega)]
theorem dec_inv {bs rest : List Int} {e : E} (hB : IsBytes bs) (h : dec bs = some (e, rest)) : bs = put e ++ rest ∧ Ty e := by
  unfold dec decEvents decInputs at h
  obtain ⟨⟨f, b1⟩, h1, ha⟩ := Option.bind_eq_some_iff.1 h
  clear h
  obtain ⟨⟨l, b2⟩, h2, hb⟩ := Option.bind_eq_some_iff.1 ha
  clear ha
  obtain ⟨⟨n, b3⟩, h3, hc⟩ := Option.bind_eq_some_iff.1 h2
  clear h2
  obtain ⟨⟨g, b4⟩, h4, hd⟩ := Option.bind_eq_some_iff.1 hb
  clear hb
  obtain ⟨⟨m, b5⟩, h5, he⟩ := Option.bind_eq_some_iff.1 h4
  clear h4
  injection hd with hd
  injection hd with e1 e2
  subst e1 e2
  dsimp only at h3 hc h5 he ⊢
  obtain ⟨rfl, x1, y1, B1⟩ := rdn_inv hB h1
  obtain ⟨rfl, x2, y2, B2⟩ := rdn_inv B1 h3
  obtain ⟨l', hl0, hl, rfl, B3, t3⟩ := decEvs_inv _ _ _ _ _ B2 hc
  rw [List.nil_append] at hl0
  subst hl0
  obtain ⟨rfl, x4, y4, B4⟩ := rdn_inv B3 h5
  obtain ⟨rfl, B5, h6, _⟩ := decIns_inv _ _ _ _ _ _ _ B4 (fun i _ _ => rfl) he
  have hm := mask_of g m.toNat 8 fun k hk => (h6 k (Nat.zero_le _) (by omega)).1
  have e8 := ins_from g 8 0
  rw [show 0 + 8 = 8 from rfl, show insBytes g 0 = [] from rfl, List.nil_append] at e8
  rw [Nat.mod_eq_of_lt (by omega)] at hm
  refine ⟨?_, ⟨?_, t3, fun i hi => (h6 i (Nat.zero_le _) (by omega)).2⟩⟩
  · unfold put
    dsimp only
    rw [hm, ← e8, hl, Int.toNat_of_nonneg x2, Int.toNat_of_nonneg x4]
    simp only [List.append_assoc]
  · unfold i64; dsimp only; omega
theorem get_put {e : E} (h : Ok e) (ht : Ty e) : ∃ e', get (put e) = some e' ∧ Like e e' := by
  obtain ⟨e', h1, h2⟩ := dec_put h ht []
  rw [List.append_nil] at h1
  refine ⟨e', ?_, h2⟩
  unfold get
  rw [h1, Option.bind_some, if_pos ⟨rfl, h.like h2⟩]
theorem get_some {bs : List Int} {e : E} (hB : IsBytes bs) (h : get bs = some e) : Ok e ∧ Ty e ∧ put e = bs := by
  unfold get at h
  obtain ⟨⟨e', r⟩, h1, h⟩ := Option.bind_eq_some_iff.1 h
  split at h
  · rename_i hq
    injection h with h
    subst h
    obtain ⟨h2, h3⟩ := dec_inv hB h1
    dsimp only at hq h2 h3 ⊢
    rw [hq.1, List.append_nil] at h2
    exact ⟨hq.2, h3, h2.symm⟩
  · cases h
theorem events_left {bs rest : List Int} {l : List Ev} (hB : IsBytes bs) (h : decEvents bs = some (l, rest)) : IsBytes rest := by
  unfold decEvents at h
  obtain ⟨⟨n, b1⟩, h1, h2⟩ := Option.bind_eq_some_iff.1 h
  obtain ⟨_, _, _, _, h3, _⟩ := decEvs_inv _ _ _ _ _ (rdn_inv hB h1).2.2.2 h2
  exact h3
theorem dec_few {bs rest : List Int} {e : E} (hB : IsBytes bs) (h : dec bs = some (e, rest)) : e.evs.length ≤ 255 := by
  unfold dec decEvents at h
  obtain ⟨⟨f, b1⟩, h1, ha⟩ := Option.bind_eq_some_iff.1 h
  obtain ⟨⟨l, b2⟩, h2, hb⟩ := Option.bind_eq_some_iff.1 ha
  obtain ⟨⟨n, b3⟩, h3, hc⟩ := Option.bind_eq_some_iff.1 h2
  obtain ⟨⟨g, b4⟩, h4, hd⟩ := Option.bind_eq_some_iff.1 hb
  injection hd with hd
  injection hd with e1 e2
  subst e1 e2
  obtain ⟨_, x1, y1, B1⟩ := rdn_inv hB h1
  obtain ⟨_, x2, y2, B2⟩ := rdn_inv B1 h3
  obtain ⟨l', hl0, hl, _⟩ := decEvs_inv _ _ _ _ _ B2 hc
  dsimp only at hl hl0 x2 y2 ⊢
  rw [List.nil_append] at hl0
  subst hl0
  omega
end En
namespace Bd
open Go
theorem i8 {a : Int} (h : (Lit.int .i8 a).wf = true) : -128 ≤ a ∧ a ≤ 127 := by
  simpa [Lit.wf, IntKind.min, IntKind.max, IntKind.signed, IntKind.bits] using h
theorem i32 {a : Int} (h : (Lit.int .i32 a).wf = true) : -2147483648 ≤ a ∧ a ≤ 2147483647 := by
  simpa [Lit.wf, IntKind.min, IntKind.max, IntKind.signed, IntKind.bits] using h
theorem i64 {a : Int} (h : (Lit.int .i64 a).wf = true) : -9223372036854775808 ≤ a ∧ a ≤ 9223372036854775807 := by
  simpa [Lit.wf, IntKind.min, IntKind.max, IntKind.signed, IntKind.bits] using h
theorem u8 {a : Int} (h : (Lit.int .u8 a).wf = true) : 0 ≤ a ∧ a ≤ 255 := by
  simpa [Lit.wf, IntKind.min, IntKind.max, IntKind.signed, IntKind.bits] using h
theorem u16 {a : Int} (h : (Lit.int .u16 a).wf = true) : 0 ≤ a ∧ a ≤ 65535 := by
  simpa [Lit.wf, IntKind.min, IntKind.max, IntKind.signed, IntKind.bits] using h
theorem u32 {a : Int} (h : (Lit.int .u32 a).wf = true) : 0 ≤ a ∧ a ≤ 4294967295 := by
  simpa [Lit.wf, IntKind.min, IntKind.max, IntKind.signed, IntKind.bits] using h
theorem u64 {a : Int} (h : (Lit.int .u64 a).wf = true) : 0 ≤ a ∧ a ≤ 18446744073709551615 := by
  simpa [Lit.wf, IntKind.min, IntKind.max, IntKind.signed, IntKind.bits] using h
theorem fld {H : Type} {enc : TypeId × Value → H} {P : Program} {w : World} {base : Nat} {spare : Nat → Bool} {held : Bool} {t : TypeId} {k : IntKind} {n : Int} (ht : P.underlying t = some (.int k)) (hw : (Lit.int k n).wf = true) :
    ∃ m, DataW.trod enc P w base spare held m t [.int k n] = some (.lit (.int k n), []) := ⟨1, by simp [DataW.trod, ht, hw]⟩
end Bd
namespace Go.Proofs.Ytgmlbimgcifenaa
open Go.ChangeShapes Go.WideShapes Go.ChangeAt Go.RowKit Go.Joins Go.ChangeMaps Go.Deep
theorem cells?_cell' {w : World} {base : Nat} {a : Addr} {n : Nat} {cs : List Value} (h : w.cells? base a n = some cs) : cs.length = n ∧ ∀ j, j < n → w.cell? (a.add j) = cs[j]? := by
  unfold World.cells? at h
  split at h
  · have hl := mapM_some_length h
    refine ⟨by simpa using hl, fun j hj => ?_⟩
    have := mapM_some_get h j j (by simp [hj])
    rw [this]
  · cases h
theorem cells_one_of' {v x : Value} (h : ∀ cs, v ≠ .agg cs) (hv : v.cells.toList = [x]) : v = x := by
  cases v <;> first | exact absurd rfl (h _) | simpa [Value.cells] using hv
section
variable {α : Type} {cells : α → List Value} {c : Nat}
theorem flat_len (hc : ∀ a, (cells a).length = c) (l : List α) : (l.flatMap cells).length = l.length * c := by
  induction l with
  | nil => simp
  | cons s l ih => rw [List.flatMap_cons, List.length_append, ih, List.length_cons, hc, Nat.succ_mul]; omega
theorem flat_at (hc : ∀ a, (cells a).length = c) (l : List α) (k j : Nat) (hk : k < l.length) (hj : j < c) : (l.flatMap cells)[k * c + j]? = (cells l[k])[j]? := by
  induction l generalizing k with
  | nil => simp at hk
  | cons s l ih =>
    rw [List.flatMap_cons]
    match k with
    | 0 => rw [List.getElem?_append_left (by rw [hc]; omega)]; simp
    | k + 1 =>
      rw [List.getElem?_append_right (by rw [hc, Nat.succ_mul]; omega)]
      have := ih k (by simpa using hk)
      rw [show (k + 1) * c + j - (cells s).length = k * c + j from by rw [hc, Nat.succ_mul]; omega, this]
      simp
end
section
variable {H : Type} {enc : TypeId × Value → H} {w : World} {base : Nat} {spare : Nat → Bool} {held : Bool}
theorem open_slice_c {α : Type} {t e : TypeId} (cells : α → List Value) (c : Nat) (ty : α → Prop) (z : α) (hu : Try.prog.underlying t = some (.slice e)) (hce : Try.prog.cellsOf e = c) (hc0 : 0 < c) (hlen : ∀ a, (cells a).length = c)
    (hel : ∀ {base : Nat} {spare : Nat → Bool} {held : Bool} {fuel : Nat} {l : List Value} {y : DataW H × List MemPlace}, l.length = c → DataW.trod enc Try.prog w base spare held fuel e l = some y → ∃ q : α, l = cells q ∧ ty q)
    {v : Value} {d : DataW H} {p : List MemPlace} (hag : ∀ cs, v ≠ .agg cs) (h : DataW.Trod enc Try.prog w base spare held t v d p) : ∃ (A : Option Addr) (cc : Nat) (l : List α), v = .slice A l.length cc ∧ (∀ x ∈ l, ty x) ∧ l.length ≤ maxLen ∧ Lies w w.heap.size c A l.length (l.flatMap cells) ∧ l.length ≤ cc := by
  obtain ⟨fuel, hf⟩ := h
  rcases DataW.trod_slice hu hf with ⟨hv, _⟩ | ⟨a, len, cap, elems, rest, n, rfl, hv, _, _, hlc, hcm, hlen', hel', _, _⟩
  · have ev : v = .slice none 0 0 := cells_one_of' hag hv
    exact ⟨none, 0, [], ev, fun x hx => (by cases hx), Nat.zero_le _, Lies.empty, Nat.le_refl _⟩
  · have ev : v = .slice (some a) len cap := cells_one_of' hag hv
    simp only [hce] at hel'
    have key : ∀ i, i < len → ∃ q : α, w.cells? base (a.add (i * c)) c = some (cells q) ∧ ty q := by
      intro i hi
      obtain ⟨y, hy⟩ : ∃ y, elems[i]? = some y := ⟨elems[i]'(by omega), List.getElem?_eq_getElem (by omega)⟩
      have h := hel' i hi
      rw [hy, Option.bind_eq_some_iff] at h
      obtain ⟨cs, hcs, ht⟩ := h
      have hl := (cells?_cell' hcs).1
      obtain ⟨q, h1, h2⟩ := hel hl ht
      exact ⟨q, by rw [hcs, h1], h2⟩
    have hch : ∃ ps : Nat → α, ∀ i, i < len → (w.cells? base (a.add (i * c)) c = some (cells (ps i)) ∧ ty (ps i)) :=
      ⟨fun i => if h : i < len then (key i h).choose else z, fun i hi => by dsimp only; rw [dif_pos hi]; exact (key i hi).choose_spec⟩
    obtain ⟨ps, hps⟩ := hch
    have ll : ((List.range len).map ps).length = len := by simp
    have lf : (((List.range len).map ps).flatMap cells).length = len * c := by rw [flat_len hlen, ll]
    refine ⟨some a, cap, (List.range len).map ps, by rw [ll]; exact ev, fun x hx => ?_, by rw [ll]; omega, ⟨?_, fun h0 => ?_, fun ad e h0 j u hu => ?_⟩, by rw [ll]; exact hlc⟩
    · obtain ⟨i, hi, rfl⟩ := List.mem_map.1 hx
      exact (hps i (by simpa using hi)).2
    · rw [lf, ll]
    · rw [ll] at h0
      exact ⟨a, rfl, by have := World.cells?_block (hps 0 (by omega)).1 hc0; simpa [Addr.add] using this⟩
    · injection e with e
      subst e
      have hjl : j < len * c := by have := (List.getElem?_eq_some_iff.1 hu).1; rwa [lf] at this
      have hjc : j / c < len := (Nat.div_lt_iff_lt_mul hc0).2 hjl
      have hjm : j % c < c := Nat.mod_lt _ hc0
      have hjj : j / c * c + j % c = j := by rw [Nat.mul_comm]; exact Nat.div_add_mod j c
      have hq := (cells?_cell' (hps (j / c) hjc).1).2 (j % c) hjm
      rw [add_twice, hjj] at hq
      rw [hq, ← hu]
      have := flat_at hlen ((List.range len).map ps) (j / c) (j % c) (by rw [ll]; exact hjc) hjm
      rw [hjj] at this
      rw [this]
      simp
theorem open_slice {α : Type} {t e : TypeId} (cells : α → List Value) (c : Nat) (ty : α → Prop) (z : α) (hu : Try.prog.underlying t = some (.slice e)) (hce : Try.prog.cellsOf e = c) (hc0 : 0 < c) (hlen : ∀ a, (cells a).length = c)
    (hel : ∀ {base : Nat} {spare : Nat → Bool} {held : Bool} {fuel : Nat} {l : List Value} {y : DataW H × List MemPlace}, l.length = c → DataW.trod enc Try.prog w base spare held fuel e l = some y → ∃ q : α, l = cells q ∧ ty q)
    {v : Value} {d : DataW H} {p : List MemPlace} (hag : ∀ cs, v ≠ .agg cs) (h : DataW.Trod enc Try.prog w base spare held t v d p) : ∃ (A : Option Addr) (cc : Nat) (l : List α), v = .slice A l.length cc ∧ (∀ x ∈ l, ty x) ∧ l.length ≤ maxLen ∧ Lies w w.heap.size c A l.length (l.flatMap cells) := by
  obtain ⟨A, cc, l, h1, h2, h3, h4, _⟩ := open_slice_c cells c ty z hu hce hc0 hlen hel hag h
  exact ⟨A, cc, l, h1, h2, h3, h4⟩
end
end Go.Proofs.Ytgmlbimgcifenaa
namespace Go.Proofs.Ytgmlbimgcifenaa
open Go.RowKit Go.Shelf
theorem ev_info : (Try.prog.info? 59).map (fun i => (i.zero, i.size, i.bytes)) = some (some (.agg #[.int .i64 0, .int .i64 0, .int .i64 0, .int .i64 0]), 4, 32) := by kernel_rfl
theorem en_info : (Try.prog.info? 53).map (·.size) = some 26 := by kernel_rfl
theorem ins_info : (Try.prog.info? 51).map (·.size) = some 24 := by kernel_rfl
theorem stickmay_any (x y b : Int) (w : World) :
    Calls Try.prog 56 #[.agg #[.int .i8 x, .int .i8 y, .int .u8 b]] w fun e w' => e = .returned (.bool (decide (-127 ≤ x ∧ -127 ≤ y))) ∧ Below w.heap.size w w' := by
  by_cases hx : -127 ≤ x
  · go_enter Try.func56, Try.ntmps56
    go_wp2
    go_ret
    exact ⟨ret_bool (by (try rw [Bool.eq_iff_iff]) <;> simp <;> omega), one_below _ _⟩
  · go_enter Try.func56, Try.ntmps56
    go_wp2
    go_ret
    exact ⟨ret_bool (by (try rw [Bool.eq_iff_iff]) <;> simp <;> omega), one_below _ _⟩
theorem mayevent_any (k s g p : Int) (w : World) :
    Calls Try.prog 90 #[.agg #[.int .i64 k, .int .i64 s, .int .i64 g, .int .i64 p]] w fun e w' => e = .returned (.bool (decide (En.evOk ⟨k, s, g, p⟩))) ∧ Below w.heap.size w w' := by
  obtain ⟨r, hr⟩ : ∃ r, r = decide (En.evOk ⟨k, s, g, p⟩) := ⟨_, rfl⟩
  rw [← hr]
  unfold En.evOk at hr
  dsimp only at hr
  by_cases hk : k = 2 ∨ k = 1
  · have hkb : (if (k == 2) = true then true else k == 1) = true := by rcases hk with rfl | rfl <;> rfl
    by_cases hs : 0 ≤ s ∧ s < 8
    · by_cases hg : 1 ≤ g ∧ g ≤ 60000
      · have hr' : r = decide (0 ≤ p ∧ p < 12) := by
          rw [hr]
          by_cases hp : 0 ≤ p ∧ p < 12
          · rw [decide_eq_true hp]; exact decide_eq_true ⟨hk, hs, hg, hp⟩
          · rw [decide_eq_false hp]; exact decide_eq_false fun h => hp h.2.2.2
        have HR := qh hr'
        clear hr hr'
        obtain ⟨hs1, hs2⟩ := hs
        obtain ⟨hg1, hg2⟩ := hg
        rcases hk with rfl | rfl
        all_goals
          by_cases hp1 : 0 ≤ p
          all_goals
            go_enter Try.func90, Try.ntmps90
            go_wp2
            go_ret
            exact ⟨ret_bool (by rw [HR.out]; (try rw [Bool.eq_iff_iff]) <;> simp <;> omega), one_below _ _⟩
      · have hr' : r = false := by rw [hr]; exact decide_eq_false (by omega)
        subst hr'
        obtain ⟨hs1, hs2⟩ := hs
        clear hr
        rcases hk with rfl | rfl
        all_goals
          by_cases hg1 : 1 ≤ g
          · have hg2 : ¬ g ≤ 60000 := by omega
            go_enter Try.func90, Try.ntmps90
            go_wp2
            go_ret
            exact ⟨rfl, one_below _ _⟩
          · go_enter Try.func90, Try.ntmps90
            go_wp2
            go_ret
            exact ⟨rfl, one_below _ _⟩
    · have hr' : r = false := by rw [hr]; exact decide_eq_false (by omega)
      subst hr'
      clear hr
      rcases hk with rfl | rfl
      all_goals
        by_cases hs1 : 0 ≤ s
        · have hs2 : ¬ s < 8 := by omega
          go_enter Try.func90, Try.ntmps90
          go_wp2
          go_ret
          exact ⟨rfl, one_below _ _⟩
        · go_enter Try.func90, Try.ntmps90
          go_wp2
          go_ret
          exact ⟨rfl, one_below _ _⟩
  · have hr' : r = false := by rw [hr]; exact decide_eq_false (by omega)
    subst hr'
    have h2 : (k == 2) = false := by simp; omega
    have h1 : (k == 1) = false := by simp; omega
    clear hr hk
    go_enter Try.func90, Try.ntmps90
    go_wp2
    go_ret
    exact ⟨rfl, one_below _ _⟩
theorem enplace_any (k s g p : Int) (w : World) (h : En.evOk ⟨k, s, g, p⟩) :
    Calls Try.prog 91 #[.agg #[.int .i64 k, .int .i64 s, .int .i64 g, .int .i64 p]] w fun e w' => e = .returned (.int .i64 (En.place ⟨k, s, g, p⟩)) ∧ Below w.heap.size w w' := by
  obtain ⟨h1, h2, _⟩ := h
  dsimp only at h1 h2
  have hw : IntKind.i64.wrap (8 + s) = 8 + s := by rw [IntKind.wrap_i64]; omega
  rcases h1 with rfl | rfl
  · go_enter Try.func91, Try.ntmps91
    go_wp2
    go_ret
    exact ⟨rfl, one_below _ _⟩
  · go_enter Try.func91, Try.ntmps91
    go_wp2
    go_ret
    exact ⟨rfl, one_below _ _⟩
theorem evs_at {w : World} {B n : Nat} {A : Option Addr} {l : List En.Ev} (h : Lies w B 4 A n (En.evCells l)) (hn : n = l.length) (k : Nat) (hk : k < l.length) :
    ∃ ad, A = some ad ∧ ad.block < B ∧ w.cell? (ad.add (k * 4)) = some (.int .i64 l[k].kind) ∧ w.cell? ⟨(ad.add (k * 4)).block, (ad.add (k * 4)).off + 1, none⟩ = some (.int .i64 l[k].slot) ∧
      w.cell? ⟨(ad.add (k * 4)).block, (ad.add (k * 4)).off + 2, none⟩ = some (.int .i64 l[k].gen) ∧ w.cell? ⟨(ad.add (k * 4)).block, (ad.add (k * 4)).off + 3, none⟩ = some (.int .i64 l[k].peer) := by
  obtain ⟨ad, rfl, hb⟩ := h.start (by omega)
  have hc := h.cell ad rfl (by omega)
  have hj : ∀ j v, j < 4 → l[k].cells[j]? = some v → w.cell? ((ad.add (k * 4)).add j) = some v := fun j v hj hv => by
    rw [add_twice]
    exact hc _ v (by rw [En.evCells_at l k j hk hj, hv])
  exact ⟨ad, rfl, hb, hj 0 _ (by decide) rfl, hj 1 _ (by decide) rfl, hj 2 _ (by decide) rfl, hj 3 _ (by decide) rfl⟩
theorem mayrow_any (l : List En.Ev) (A : Option Addr) (n c : Nat) (w : World) (hn : n = l.length) (hn63 : n ≤ maxLen) (hL : Lies w w.heap.size 4 A n (En.evCells l)) :
    Calls Try.prog 85 #[.slice A n c] w fun e w' => e = .returned (.bool (decide (En.Row (-1) l))) ∧ Below w.heap.size w w' := by
  obtain ⟨r, hr⟩ : ∃ r, r = decide (En.Row (-1) l) := ⟨_, rfl⟩
  rw [← hr]
  have HR := qh hr
  have HN := qh hn
  have n63 : (n : Int) ≤ 9223372036854775807 := by unfold maxLen at hn63; omega
  clear hr hn hn63
  go_enter Try.func85, Try.ntmps85
  go_wp2
  go_loopw [3, 8] (fun la i wr => ∃ (k : Nat) (z : Int), k ≤ n ∧ i = .int .i64 k ∧ la = .int .i64 z ∧ (-1 ≤ z ∧ z < 16) ∧ (En.Row (-1) l ↔ En.Row z (l.drop k)) ∧ Below w.heap.size w wr) (fun _ i _ => n - (intOf i).toNat)
  case atStart => exact ⟨0, -1, by omega, rfl, rfl, by omega, Iff.rfl, Below.refl _ _⟩
  case round =>
    obtain ⟨k, z, hk, rfl, rfl, hz, hrow, hb⟩ := hrel
    by_cases hlt : k < n
    · have hk8 : (k : Int) < n := by omega
      have hkl : k < l.length := by have := HN.out; omega
      obtain ⟨ad, rfl, hbl, e0, e1, e2, e3⟩ := evs_at (hL.below hb) HN.out k hkl
      rw [List.drop_eq_getElem_cons hkl] at hrow
      generalize hv : l[k] = v at e0 e1 e2 e3 hrow
      obtain ⟨vk, vs, vg, vp⟩ := v
      dsimp only at e0 e1 e2 e3
      have hrow' : En.Row (-1) l ↔ (En.evOk ⟨vk, vs, vg, vp⟩ ∧ z < En.place ⟨vk, vs, vg, vp⟩) ∧ En.Row (En.place ⟨vk, vs, vg, vp⟩) (l.drop (k + 1)) := hrow
      have HW := qh hrow'
      have HB := qh hb
      have sz := hb.size
      have ltA : ad.block < wr.heap.size := by omega
      by_cases hev : En.evOk ⟨vk, vs, vg, vp⟩
      · have cm := fun X => qh (mayevent_any vk vs vg vp X)
        rw [decide_eq_true hev] at cm
        have cp := fun X => qh (enplace_any vk vs vg vp X hev)
        have hpl := En.place_lt hev
        have hevH := qh hev
        generalize hp : En.place ⟨vk, vs, vg, vp⟩ = pl at cp hpl HW
        clear hrow hrow' hb hv hL hev hp
        by_cases hlp : z < pl
        · have hnp : ¬ pl ≤ z := by omega
          go_wp2_with (first | (go_at_call 90; ((with_reducible refine ((cm _).out).mono ?_); rintro e w1 ⟨rfl, hb1⟩; have K1 := qh (((HB.out.alloc sz _).trans (hb1.mono (by simp <;> omega)))); have P1 := qh ((Box.made wr 59 #[.int .i64 vk, .int .i64 vs, .int .i64 vg, .int .i64 vp]).below hb1 (by simp)); have p1 := P1.out.cell; clear hb1)) | (go_at_call 91; ((with_reducible refine ((cp _).out).mono ?_); rintro e w2 ⟨rfl, hb2⟩; first | (have K3 := qh (K2.out.trans (hb2.mono K2.out.size))) | (have K2 := qh (K1.out.trans (hb2.mono K1.out.size)); have P2 := qh (P1.out.below hb2 P1.out.lt); have p2 := P2.out.cell); clear hb2)))
          go_roundw
          case rel => exact ⟨k + 1, pl, by omega, by go_num, rfl, by omega, HW.out.trans ⟨fun h => h.2, fun h => ⟨⟨hevH.out, hlp⟩, h⟩⟩, K3.out⟩
          case measure => simp [intOf]; omega
        · have hnp : pl ≤ z := by omega
          go_wp2_with (first | (go_at_call 90; ((with_reducible refine ((cm _).out).mono ?_); rintro e w1 ⟨rfl, hb1⟩; have K1 := qh (((HB.out.alloc sz _).trans (hb1.mono (by simp <;> omega)))); have P1 := qh ((Box.made wr 59 #[.int .i64 vk, .int .i64 vs, .int .i64 vg, .int .i64 vp]).below hb1 (by simp)); have p1 := P1.out.cell; clear hb1)) | (go_at_call 91; ((with_reducible refine ((cp _).out).mono ?_); rintro e w2 ⟨rfl, hb2⟩; have K2 := qh (K1.out.trans (hb2.mono K1.out.size)); clear hb2)))
          go_ret
          exact ⟨ret_bool (by rw [HR.out]; exact (decide_eq_false fun h => absurd (HW.out.1 h).1.2 (by omega)).symm), K2.out⟩
      · have cm := fun X => qh (mayevent_any vk vs vg vp X)
        rw [decide_eq_false hev] at cm
        have hevH := qh hev
        clear hrow hrow' hb hv hL hev
        go_wp2_with (go_at_call 90; ((with_reducible refine ((cm _).out).mono ?_); rintro e w1 ⟨rfl, hb1⟩; have K1 := qh (((HB.out.alloc sz _).trans (hb1.mono (by simp <;> omega)))); clear hb1))
        go_ret
        exact ⟨ret_bool (by rw [HR.out]; exact (decide_eq_false fun h => hevH.out (HW.out.1 h).1.1).symm), K1.out⟩
    · have hk8 : ¬ (k : Int) < n := by omega
      obtain rfl : k = n := by omega
      have hd : l.drop k = [] := List.drop_eq_nil_of_le (by have := HN.out; omega)
      rw [hd] at hrow
      have HW := qh hrow
      have HB := qh hb
      clear hrow hb hL
      go_wp2
      go_ret
      exact ⟨ret_bool (by rw [HR.out]; exact (decide_eq_true (HW.out.2 trivial)).symm), HB.out⟩
end Go.Proofs.Ytgmlbimgcifenaa
namespace Go.Proofs.Ytgmlbimgcifenaa
open Go.RowKit Go.Shelf
section
variable {ops : Array Oper} {rest : List Oper} {o : Oper} {a : Act} {w : World} {Q : Exit → Act → World → Prop} {x y : Operand} {dst : Option Tmp} {p : Value}
def LoadEn (ops : Array Oper) (Q : Exit → Act → World → Prop) (rest : List Oper) (dst : Option Tmp) (p : Value) (off : Nat) (pick : En.E → Value → Array Value) (a : Act) (w : World) : Prop :=
  ∃ (B : Nat) (e : En.E) (s : Value), p = .pointer (some ⟨B, off, none⟩) ∧ Box w B 53 (En.cells e s) ∧ wpList Try.prog ops Q rest (a.put dst (.agg (pick e s))) w
theorem LoadEn.mk {off : Nat} {pick : En.E → Value → Array Value} {B : Nat} {e : En.E} {s : Value} (hp : p = .pointer (some ⟨B, off, none⟩)) (hB : Box w B 53 (En.cells e s)) (h : wpList Try.prog ops Q rest (a.put dst (.agg (pick e s))) w) : LoadEn ops Q rest dst p off pick a w := ⟨B, e, s, hp, hB, h⟩
theorem en_load (hgd : o.guard = none) (ho : o.op = .load 53 x) (h : LoadEn ops Q rest o.dst (a.eval x) 0 (fun e s => En.cells e s) a w) : wpList Try.prog ops Q (o :: rest) a w := by
  obtain ⟨B, e, s, hx, hB, h⟩ := h
  exact wpList_load_blk hgd ho hx hB Try.underlying53 rfl en_info h
theorem en_load_g (hw : Region.wanted o (yielded ops a.tmps) = true) (ho : o.op = .load 53 x) (h : LoadEn ops Q rest o.dst (a.eval x) 0 (fun e s => En.cells e s) a w) : wpList Try.prog ops Q (o :: rest) a w := by
  obtain ⟨B, e, s, hx, hB, h⟩ := h
  refine wpList_load_part_g hw ho hx hB (En.cells e s).toList (fun j v hv => ?_) Try.underlying53 rfl (by rw [Array.length_toList, En.cells_size]; exact en_info) (by rw [Array.toArray_toList]; exact h)
  rw [Nat.zero_add]
  simpa using hv
theorem en_load_ins (hgd : o.guard = none) (ho : o.op = .load 51 x) (h : LoadEn ops Q rest o.dst (a.eval x) 2 (fun e _ => (Gm.insCells e.inp).toArray) a w) : wpList Try.prog ops Q (o :: rest) a w := by
  obtain ⟨B, e, s, hx, hB, h⟩ := h
  exact wpList_load_part hgd ho hx hB (Gm.insCells e.inp) (En.cells_ins e s) Try.underlying51 rfl ins_info h
theorem en_load_ins_g (hw : Region.wanted o (yielded ops a.tmps) = true) (ho : o.op = .load 51 x) (h : LoadEn ops Q rest o.dst (a.eval x) 2 (fun e _ => (Gm.insCells e.inp).toArray) a w) : wpList Try.prog ops Q (o :: rest) a w := by
  obtain ⟨B, e, s, hx, hB, h⟩ := h
  exact wpList_load_part_g hw ho hx hB (Gm.insCells e.inp) (En.cells_ins e s) Try.underlying51 rfl ins_info h
end
theorem in_info : (Try.prog.info? 50).map (·.size) = some 3 := by kernel_rfl
theorem insCells_list (f : Nat → Gm.In) (i : Nat) (hi : i < 8) : ((Gm.insCells f).drop (i * 3)).take 3 = (f i).cells := by
  match i, hi with
  | 0, _ | 1, _ | 2, _ | 3, _ | 4, _ | 5, _ | 6, _ | 7, _ => rfl
theorem in_part (f : Nat → Gm.In) (i : Nat) (hi : i < 8) (w : World) : (part 50 (Gm.insCells f).toArray (i * 3)).run Try.prog w = .ok (.agg (f i).cells.toArray) w := by
  have h := insCells_list f i hi
  cases hq : Try.prog.info? 50 with
  | none => have := in_info; simp [hq] at this
  | some j =>
    have hs : j.size = 3 := by have := in_info; simpa [hq] using this
    simp [part, isAgg, sizeOf, typeInfo, hq, hs, run_underlying (Try.underlying50) w, h]
theorem in_index (f : Nat → Gm.In) (k : Nat) (hk : k < 8) (W : World) : (Instr.index 51 (.agg (Gm.insCells f).toArray) (.int .i64 (k : Int))).run Try.prog W = .ok (.agg #[.int .i8 (f k).x, .int .i8 (f k).y, .int .u8 (f k).b]) W := by
  have h := in_part f k hk W
  rw [show (f k).cells.toArray = #[.int .i8 (f k).x, .int .i8 (f k).y, .int .u8 (f k).b] from rfl] at h
  have hk8 : (k : Int) < 8 := by omega
  have hc : Try.prog.cellsOf 50 = 3 := by kernel_rfl
  cases hq : Try.prog.info? 50 with
  | none => have := in_info; simp [hq] at this
  | some i =>
    have hi : i.size = 3 := by have := in_info; simpa [hq] using this
    simp [Instr.index, run_underlying (Try.underlying51) W, h, hk8, sizeOf, typeInfo, hq, hi, go_sem]
    rw [if_pos hk, insCells_list f k hk]
    rfl
def En.inEq (p q : Gm.In) : Bool := p.x == q.x && (p.y == q.y && p.b == q.b)
theorem En.inEq_iff (p q : Gm.In) : En.inEq p q = true ↔ p = q := by
  obtain ⟨a, b, c⟩ := p
  obtain ⟨d, e, f⟩ := q
  unfold En.inEq
  simp
theorem in_in (a b c d e f : Int) (w : World) : (Op.equalIn 9999 50 (.agg #[.int .i8 a, .int .i8 b, .int .u8 c]) (.agg #[.int .i8 d, .int .i8 e, .int .u8 f])).run Try.prog w = .ok (a == d && (b == e && c == f)) w := by
  by_cases h1 : a = d
  · by_cases h2 : b = e
    · by_cases h3 : c = f
      · subst h1 h2 h3; go_simp <;> simp
      · have h4 : (c == f) = false := by simpa using h3
        subst h1 h2; go_simp <;> simp [h4, h3]
    · have h4 : (b == e) = false := by simpa using h2
      subst h1; go_simp <;> simp [h4, h2]
  · have h4 : (a == d) = false := by simpa using h1
    go_simp <;> simp [h4, h1]
def En.insEq (f g : Nat → Gm.In) : Bool := (List.range 8).all fun i => En.inEq (f i) (g i)
theorem En.insEq_iff (f g : Nat → Gm.In) : En.insEq f g = true ↔ ∀ i, i < 8 → f i = g i := by
  unfold En.insEq
  rw [List.all_eq_true]
  exact ⟨fun h i hi => (En.inEq_iff _ _).1 (h i (by simpa using hi)), fun h i hi => (En.inEq_iff _ _).2 (h i (by simpa using hi))⟩
theorem ins_in (f g : Nat → Gm.In) (w : World) : (Op.equalIn 10000 51 (.agg (Gm.insCells f).toArray) (.agg (Gm.insCells g).toArray)).run Try.prog w = .ok (En.insEq f g) w := by
  cases hq : Try.prog.info? 50 with
  | none => have := in_info; simp [hq] at this
  | some j =>
    have hs : Try.prog.cellsOf 50 = 3 := by kernel_rfl
    rw [run_equalIn_array w 9999 _ _ Try.underlying51 hq, hs]
    exact run_eqItems_all w 9999 _ 3 _ _ (fun i => .agg (f i).cells.toArray) (fun i => .agg (g i).cells.toArray) (fun i => En.inEq (f i) (g i)) (List.range 8)
      (fun i hi => ⟨in_part f i (by simpa using hi) w, in_part g i (by simpa using hi) w, in_in _ _ _ _ _ _ w⟩)
theorem ins_eql (f g : Nat → Gm.In) (w : World) : (binOp .eql 51 (.agg (Gm.insCells f).toArray) (.agg (Gm.insCells g).toArray)).run Try.prog w = .ok (.bool (En.insEq f g)) w := by
  have := ins_in f g w
  generalize (Gm.insCells f).toArray = F at *
  generalize (Gm.insCells g).toArray = G at *
  go_simp
theorem ins_neq (f g : Nat → Gm.In) (w : World) : (binOp .neq 51 (.agg (Gm.insCells f).toArray) (.agg (Gm.insCells g).toArray)).run Try.prog w = .ok (.bool (!En.insEq f g)) w := by
  have := ins_in f g w
  generalize (Gm.insCells f).toArray = F at *
  generalize (Gm.insCells g).toArray = G at *
  go_simp
theorem enmay_any (e : En.E) (A : Option Addr) (n c : Nat) (w : World) (hn : n = e.evs.length) (hn63 : n ≤ maxLen) (hL : Lies w w.heap.size 4 A n (En.evCells e.evs)) :
    Calls Try.prog 57 #[.agg (En.cells e (.slice A n c))] w fun r w' => r = .returned (.bool (decide (En.Ok e))) ∧ Below w.heap.size w w' := by
  obtain ⟨v, hv⟩ : ∃ v, v = decide (En.Ok e) := ⟨_, rfl⟩
  rw [← hv]
  have HV := qh hv
  clear hv
  have P0 := qh (Box.made w 53 (En.cells e (.slice A n c)))
  have K0 := qh (one_below w (.cells (En.cells e (.slice A n c)) 53))
  have hr0 := qh ((hL.below K0.out).wider K0.out.size)
  have c0 := P0.out.cell 0
  have c1 := P0.out.cell 1
  rw [En.cells_0] at c0
  rw [En.cells_1] at c1
  have cm := fun X hX => qh (mayrow_any e.evs A n c X hn hn63 hX)
  clear hL hn hn63
  by_cases hf1 : e.frame < 0
  · have hno := qh (show ¬ En.Ok e from fun h => by have := h.frame; omega)
    go_enter Try.func57, Try.ntmps57
    go_wp2
    go_ret
    exact ⟨ret_bool (by rw [HV.out]; exact (decide_eq_false hno.out).symm), K0.out⟩
  by_cases hf2 : 1048576 ≤ e.frame
  · have hno := qh (show ¬ En.Ok e from fun h => by have := h.frame; omega)
    go_enter Try.func57, Try.ntmps57
    go_wp2
    go_ret
    exact ⟨ret_bool (by rw [HV.out]; exact (decide_eq_false hno.out).symm), K0.out⟩
  by_cases hrow : En.Row (-1) e.evs
  · rw [decide_eq_true hrow] at cm
    have HF := qh (show 0 ≤ e.frame ∧ e.frame < 1048576 by omega)
    have HW := qh hrow
    clear hrow
    go_enter Try.func57, Try.ntmps57
    go_wp2_with (first | ((with_reducible refine en_load_ins rfl rfl ?_); apply LoadEn.mk rfl; (focus (with_reducible exact P1.out)); dsimp only) | (go_at_call 85; ((with_reducible refine ((cm _ hr0.out).out).mono ?_); rintro r w1 ⟨rfl, hb⟩; have P1 := qh (P0.out.below hb P0.out.lt); have K1 := qh (K0.out.trans (hb.mono K0.out.size)); clear hb)))
    go_loopw [21] (fun i wr => ∃ k : Nat, k ≤ 8 ∧ i = .int .i64 k ∧ Below w.heap.size w wr ∧ ∀ j, j < k → En.inOk (e.inp j)) (fun i _ => 8 - (intOf i).toNat)
    case atStart => exact ⟨0, by omega, rfl, K1.out, fun j hj => absurd hj (Nat.not_lt_zero j)⟩
    case round =>
      obtain ⟨k, hk, rfl, hb, hall⟩ := hrel
      clear P0 K0 P1 K1 hr0 c0 c1 cm
      by_cases hlt : k < 8
      · have hk8 : (k : Int) < 8 := by omega
        have hpart := in_index e.inp k hlt
        have hok : En.inOk (e.inp k) ↔ (-127 ≤ (e.inp k).x ∧ -127 ≤ (e.inp k).y) := Iff.rfl
        have HK := qh (show ∀ j, j < k + 1 → j = k ∨ j < k from fun j hj => by omega)
        obtain ⟨p, hp⟩ : ∃ p, p = e.inp k := ⟨_, rfl⟩
        rw [← hp] at hpart hok
        obtain ⟨x, y, b⟩ := p
        dsimp only at hpart hok
        have HP := qh hp
        have HALL := qh hall
        have HB := qh hb
        have cs := fun X => qh (stickmay_any x y b X)
        have sz := hb.size
        clear hp hall hb
        by_cases hi : -127 ≤ x ∧ -127 ≤ y
        · rw [decide_eq_true hi] at cs
          have hnew := qh (show ∀ j, j < k + 1 → En.inOk (e.inp j) from fun j hj => by
            rcases HK.out j hj with rfl | h
            · rw [← HP.out]; exact hok.2 hi
            · exact HALL.out j h)
          clear hok hi
          go_wp2_with (go_at_call 56; ((with_reducible refine ((cs _).out).mono ?_); rintro r w2 ⟨rfl, hb⟩; have K2 := qh ((HB.out.alloc sz (.cells #[.int .i8 x, .int .i8 y, .int .u8 b] 50)).trans (hb.mono (by simp <;> omega))); clear hb))
          go_roundw
          case rel => exact ⟨k + 1, by omega, by go_num, K2.out, hnew.out⟩
          case measure => simp [intOf]; omega
        · rw [decide_eq_false hi] at cs
          have hno := qh (show ¬ En.Ok e from fun h => hi (by have := h.ins k hlt; rw [← HP.out] at this; exact this))
          clear hok hi
          go_wp2_with (go_at_call 56; ((with_reducible refine ((cs _).out).mono ?_); rintro r w2 ⟨rfl, hb⟩; have K2 := qh ((HB.out.alloc sz (.cells #[.int .i8 x, .int .i8 y, .int .u8 b] 50)).trans (hb.mono (by simp <;> omega))); clear hb))
          go_ret
          exact ⟨ret_bool (by rw [HV.out]; exact (decide_eq_false hno.out).symm), K2.out⟩
      · have hk8 : ¬ (k : Int) < 8 := by omega
        obtain rfl : k = 8 := by omega
        have hyes := qh (show En.Ok e from ⟨HF.out, HW.out, hall⟩)
        have HB := qh hb
        clear hall hb
        go_wp2
        go_ret
        exact ⟨ret_bool (by rw [HV.out]; exact (decide_eq_true hyes.out).symm), HB.out⟩
  · rw [decide_eq_false hrow] at cm
    have hno := qh (show ¬ En.Ok e from fun h => hrow h.row)
    clear hrow
    go_enter Try.func57, Try.ntmps57
    go_wp2_with (go_at_call 85; ((with_reducible refine ((cm _ hr0.out).out).mono ?_); rintro r w1 ⟨rfl, hb⟩; have K1 := qh (K0.out.trans (hb.mono K0.out.size)); clear hb))
    go_ret
    exact ⟨ret_bool (by rw [HV.out]; exact (decide_eq_false hno.out).symm), K1.out⟩
end Go.Proofs.Ytgmlbimgcifenaa
namespace En
open Go
def zeroC : Array Value := cells ⟨0, [], in0⟩ (.slice none 0 0)
theorem zeroC_size : zeroC.size = 26 := rfl
structure S where
  e : E
  adr : Option Addr
  cap : Nat
def S.sl (q : S) : Value := .slice q.adr q.e.evs.length q.cap
def S.cells (q : S) : List Value := (En.cells q.e q.sl).toList
def sCells (l : List S) : List Value := l.flatMap S.cells
theorem S.cells_len (q : S) : q.cells.length = 26 := rfl
theorem S.cells_arr (q : S) : q.cells.toArray = En.cells q.e q.sl := by unfold S.cells; exact Array.toArray_toList
theorem sCells_len (l : List S) : (sCells l).length = l.length * 26 := by
  induction l with
  | nil => rfl
  | cons s l ih => unfold sCells at *; rw [List.flatMap_cons, List.length_append, ih, List.length_cons, S.cells_len]; omega
theorem sCells_at (l : List S) (k j : Nat) (hk : k < l.length) (hj : j < 26) : (sCells l)[k * 26 + j]? = l[k].cells[j]? := by
  induction l generalizing k with
  | nil => simp at hk
  | cons s l ih =>
    unfold sCells at *
    rw [List.flatMap_cons]
    match k with
    | 0 => rw [List.getElem?_append_left (by rw [S.cells_len]; omega)]; simp
    | k + 1 =>
      rw [List.getElem?_append_right (by rw [S.cells_len]; omega)]
      have := ih k (by simpa using hk)
      rw [show (k + 1) * 26 + j - s.cells.length = k * 26 + j from by rw [S.cells_len]; omega, this]
      simp
theorem sCells_one (l : List S) : ∀ u ∈ sCells l, u.oneCell' = true := by
  intro u hu
  obtain ⟨q, _, hq⟩ := List.mem_flatMap.1 hu
  have := cells_one q.e q.sl rfl
  rw [Array.all_eq_true'] at this
  exact this u (by unfold S.cells at hq; simpa using hq)
end En
namespace Go.Proofs.Ytgmlbimgcifenaa
open Go.RowKit Go.Shelf
theorem en_zero : (Try.prog.info? 53).map (·.zero) = some (some (.agg En.zeroC)) := by kernel_rfl
theorem alloc_en {ops : Array Oper} {Q : Exit → Act → World → Prop} {o : Oper} {rest : List Oper} {a : Act} {w : World} (hgd : o.guard = none) (ho : o.op = .alloc 53)
    (h : wpList Try.prog ops Q rest (a.put o.dst (.pointer (some ⟨w.heap.size, 0, none⟩))) (w.alloc (.cells En.zeroC 53))) : wpList Try.prog ops Q (o :: rest) a w :=
  wpList_alloc_z hgd ho en_zero rfl h
theorem en_built : Try.prog.built 53 [] = some En.zeroC := by kernel_rfl
theorem en_zero_one : En.zeroC.all (·.oneCell') = true := En.cells_one _ _ rfl
theorem en_info26 : (Try.prog.info? 53).map (·.size) = some 26 := en_info
theorem en_store_new {ops : Array Oper} {Q : Exit → Act → World → Prop} {o : Oper} {rest : List Oper} {a : Act} {x y : Operand} {v : World} {old : Array Value} {e : En.E} {s : Value} (hgd : o.guard = none) (ho : o.op = .store 53 x y) (hx : a.eval x = .pointer (some ⟨v.heap.size, 0, none⟩)) (hy : a.eval y = .agg (En.cells e s))
    (hold : old.size = 26) (hs : s.oneCell' = true) (h : wpList Try.prog ops Q rest (a.put o.dst undef) (v.alloc (.cells (En.cells e s) 53))) : wpList Try.prog ops Q (o :: rest) a (v.alloc (.cells old 53)) :=
  wpList_store_new hgd ho hx hy rfl rfl en_info (by rw [En.cells_size]; exact hold) (En.cells_one _ _ hs) h
structure LiesS (w : World) (B : Nat) (A : Option Addr) (n : Nat) (l : List En.S) : Prop where
  row : Lies w B 26 A n (En.sCells l)
  each : ∀ q ∈ l, Lies w B 4 q.adr q.e.evs.length (En.evCells q.e.evs)
  few : ∀ q ∈ l, q.e.evs.length ≤ maxLen
section
variable {w w' : World} {B B' n : Nat} {A : Option Addr} {l : List En.S}
theorem LiesS.below (h : LiesS w B A n l) (hb : Below B w w') : LiesS w' B A n l := ⟨h.row.below hb, fun q hq => (h.each q hq).below hb, h.few⟩
theorem LiesS.wider (h : LiesS w B A n l) (hB : B ≤ B') : LiesS w B' A n l := ⟨h.row.wider hB, fun q hq => (h.each q hq).wider hB, h.few⟩
theorem LiesS.len (h : LiesS w B A n l) : l.length = n := by have := h.row.len; rw [En.sCells_len] at this; omega
theorem LiesS.nil : LiesS w B A 0 [] := ⟨⟨rfl, fun h => absurd rfl h, fun _ _ h => absurd rfl h⟩, fun q h => (by cases h), fun q h => (by cases h)⟩
theorem LiesS.at (h : LiesS w B A n l) (k : Nat) (hk : k < l.length) : ∃ ad, A = some ad ∧ ad.block < B ∧ ∀ j v, l[k].cells[j]? = some v → w.cell? ((ad.add (k * 26)).add j) = some v := by
  have hn := h.len
  obtain ⟨ad, rfl, hb⟩ := h.row.start (by omega)
  refine ⟨ad, rfl, hb, fun j v hv => ?_⟩
  have hj : j < 26 := by have := (List.getElem?_eq_some_iff.1 hv).1; rwa [En.S.cells_len] at this
  rw [add_twice]
  exact h.row.cell ad rfl (by omega) _ v (by rw [En.sCells_at l k j hk hj, hv])
theorem LiesS.take (h : LiesS w B A n l) (k : Nat) (hk : k ≤ n) : LiesS w B A k (l.take k) := by
  have hn := h.len
  refine ⟨⟨by rw [En.sCells_len, List.length_take]; omega, fun h0 => h.row.start (by omega), fun ad e h0 j u hu => ?_⟩, fun q hq => h.each q (List.mem_of_mem_take hq), fun q hq => h.few q (List.mem_of_mem_take hq)⟩
  have hj : j < k * 26 := by have := (List.getElem?_eq_some_iff.1 hu).1; rw [En.sCells_len, List.length_take] at this; omega
  refine h.row.cell ad e (by omega) j u ?_
  have h1 := En.sCells_at l (j / 26) (j % 26) (by omega) (by omega)
  have h2 := En.sCells_at (l.take k) (j / 26) (j % 26) (by rw [List.length_take]; omega) (by omega)
  rw [show j / 26 * 26 + j % 26 = j by omega] at h1 h2
  rw [h1, ← hu, h2]
  congr 2
  simp
end
end Go.Proofs.Ytgmlbimgcifenaa
namespace Ms
open Go
structure M where
  kind : Int
  frm : Int
  serial : Int
  ack : Int
  seen : Int
  slot : Int
  gen : Int
  frame : Int
  code : Int
  n : Int
  of : Int
  bits : Int
  sum : Int
  ins : List Gm.In
  log : List En.S
  data : List Int
structure S where
  m : M
  ai : Option Addr
  ci : Nat
  al : Option Addr
  cl : Nat
  ad : Option Addr
  cd : Nat
def S.si (q : S) : Value := .slice q.ai q.m.ins.length q.ci
def S.sl (q : S) : Value := .slice q.al q.m.log.length q.cl
def S.sd (q : S) : Value := .slice q.ad q.m.data.length q.cd
def cells (m : M) (i l d : Value) : Array Value := #[.int .i64 m.kind, .int .i64 m.frm, .int .u16 m.serial, .int .u16 m.ack, .int .u32 m.seen, .int .i64 m.slot, .int .i64 m.gen, .int .i64 m.frame, .int .i64 m.code, .int .i64 m.n, .int .i64 m.of, .int .u32 m.bits, .int .u64 m.sum, i, l, d]
def S.cells (q : S) : Array Value := Ms.cells q.m q.si q.sl q.sd
def has (k : Int) : List Int := if k = 2 then [115, 103, 102] else if k = 3 then [99] else if k = 10 then [99] else if k = 4 then [115, 103, 102, 105] else if k = 5 then [102, 108] else if k = 6 then [102] else if k = 7 then [102, 110, 111, 109, 100] else if k = 8 then [110, 98] else if k = 11 then [110] else if k = 12 then [110] else if k = 13 then [102, 109] else []
theorem has_cases {Q : List Int → Prop} (k : Int) (h0 : Q []) (h1 : Q [115, 103, 102]) (h2 : Q [99]) (h3 : Q [115, 103, 102, 105]) (h4 : Q [102, 108]) (h5 : Q [102]) (h6 : Q [102, 110, 111, 109, 100]) (h7 : Q [110, 98]) (h8 : Q [110]) (h9 : Q [102, 109]) : Q (has k) := by
  unfold has
  repeat' split
  all_goals assumption
theorem has_bytes (k : Int) : Im.IsBytes (has k) := has_cases (Q := Im.IsBytes) k (by intro x hx; revert x; decide) (by intro x hx; revert x; decide) (by intro x hx; revert x; decide) (by intro x hx; revert x; decide) (by intro x hx; revert x; decide) (by intro x hx; revert x; decide) (by intro x hx; revert x; decide) (by intro x hx; revert x; decide) (by intro x hx; revert x; decide) (by intro x hx; revert x; decide)
theorem has_len (k : Int) : (has k).length ≤ 5 := has_cases (Q := fun l => l.length ≤ 5) k (by decide) (by decide) (by decide) (by decide) (by decide) (by decide) (by decide) (by decide) (by decide) (by decide)
end Ms
namespace Go.Proofs.Ytgmlbimgcifenaa
open Go.RowKit
theorem has_any (k : Int) (w : World) :
    Calls Try.prog 38 #[.int .i64 k] w fun e w' => e = .returned (.string (strOfNums (Ms.has k))) ∧ w = w' := by
  unfold Ms.has
  repeat' split
  all_goals
    (try subst k)
    go_enter Try.func38, Try.ntmps38
    go_wp2
    go_ret
    exact ⟨rfl, rfl⟩
theorem with_any (k p : Int) (w : World) :
    Calls Try.prog 27 #[.int .i64 k, .int .u8 p] w fun e w' => e = .returned (.bool ((Ms.has k).contains p)) ∧ w = w' := by
  have c1 := qh (has_any k w)
  have hB := Ms.has_bytes k
  have hl := Ms.has_len k
  generalize Ms.has k = l at *
  have hsz := strOfNums_size l
  have hat := qh (fun (j : Nat) (h : j < l.length) (h' : j < (strOfNums l).size) => Sx.str_at hB j h h')
  clear hB
  generalize strOfNums l = s at *
  obtain ⟨T, hT⟩ : ∃ T, T = l.contains p := ⟨_, rfl⟩
  rw [← hT]
  have HT := qh hT
  clear hT
  go_enter Try.func27, Try.ntmps27
  go_wp2_with ((go_at_call 38; ((with_reducible refine ((c1).out).mono ?_); rintro e w9 ⟨rfl, rfl⟩)))
  go_loop [6] (fun i => ∃ j : Nat, j ≤ l.length ∧ i = .int .i64 j ∧ ∀ t, t < j → l.getD t 0 ≠ p) (fun i => l.length - (intOf i).toNat)
  case atStart => exact ⟨0, Nat.zero_le _, rfl, fun t ht => by omega⟩
  case round =>
    obtain ⟨j, hj, rfl, hno⟩ := hrel
    have HNO := qh hno
    clear hno
    by_cases hlt : j < l.length
    · have hjs : j < s.size := by omega
      have hc := hat.out j hlt hjs
      have e : l.getD j 0 = l[j] := by simp [hlt]
      by_cases hp : l.getD j 0 = p
      · have hin : l.contains p = true := by
          rw [List.contains_iff_mem, ← hp, e]; exact List.getElem_mem hlt
        rw [hp] at hc
        rw [hin] at HT
        have HT' := HT.out
        subst HT'
        clear hin e hp
        go_wp2
        go_ret
        exact ⟨ret_bool (by simp), rfl⟩
      · have HP := qh hp
        have hne : ((l.getD j 0) == p) = false := by simpa using hp
        obtain ⟨x, hx⟩ : ∃ x, x = l.getD j 0 := ⟨_, rfl⟩
        rw [← hx] at hc hne
        clear e hp hx
        go_wp2
        go_round
        case rel => exact ⟨j + 1, by omega, by go_num, fun t ht => by
          by_cases e : t = j
          · subst e; exact HP.out
          · exact HNO.out t (by omega)⟩
        case measure => simp [intOf]; omega
    · obtain rfl : j = l.length := by omega
      have hin : l.contains p = false := by
        rw [Bool.eq_false_iff]
        intro h
        rw [List.contains_iff_mem] at h
        obtain ⟨t, ht, he⟩ := List.mem_iff_getElem.1 h
        exact HNO.out t ht (by rw [← he]; simp [ht])
      rw [hin] at HT
      have HT' := HT.out
      subst HT'
      have hjs : ¬ (l.length : Int) < (s.size : Int) := by omega
      clear hin
      go_wp2
      go_ret
      exact ⟨rfl, rfl⟩
end Go.Proofs.Ytgmlbimgcifenaa
namespace Ms
def bareOf (l : List Int) (m : M) : Bool := (((((((((((l.contains 115 || (m.slot == 0)) && (l.contains 103 || (m.gen == 0))) && (l.contains 102 || (m.frame == 0))) && (l.contains 99 || (m.code == 0))) && (l.contains 110 || (m.n == 0))) && (l.contains 111 || (m.of == 0))) && (l.contains 98 || (m.bits == 0))) && (l.contains 109 || (m.sum == 0))) && (l.contains 105 || ((m.ins.length : Int) == 0))) && (l.contains 108 || ((m.log.length : Int) == 0))) && (l.contains 100 || ((m.data.length : Int) == 0)))
def bare (m : M) : Bool := bareOf (has m.kind) m
end Ms
namespace Go.Proofs.Ytgmlbimgcifenaa
open Go.RowKit
theorem on_ret {fn : Func} {t : Tmp} {R : Ending → World → Prop} {a : Act} {w : World} {v : Value} (h : fn.results = #[.tmp t]) (hd : a.defers = []) (ht : a.tmps[t]? = some v) (hR : R (.returned v) w) : bodyPost Try.prog fn R .ret a w :=
  bodyPost_ret ((results_tmp h _ _ _).trans (by rw [Array.getD_eq_getD_getElem?, ht]; rfl)) hd hR
theorem bare_any (q : Ms.S) (w : World) (hi : q.m.ins.length ≤ maxLen) (hl : q.m.log.length ≤ maxLen) (hd : q.m.data.length ≤ maxLen) :
    Calls Try.prog 26 #[.agg q.cells] w fun e w' => e = .returned (.bool (Ms.bare q.m)) ∧ Below w.heap.size w w' := by
  have HO := qh (one_below w (.cells q.cells 29))
  have BX := qh (Box.made w 29 q.cells)
  obtain ⟨m, ai, ci, al, cl, ad, cd⟩ := q
  dsimp only at hi hl hd ⊢
  unfold maxLen at hi hl hd
  go_enter Try.func26, Try.ntmps26
  go_upto_region 1 with fail
  generalize hW : w.alloc (.cells (Ms.S.cells ⟨m, ai, ci, al, cl, ad, cd⟩) 29) = W at *
  generalize hBs : w.heap.size = B at *
  have k0 : W.cell? ⟨B, 0, none⟩ = some (.int .i64 m.kind) := BX.out.cell 0
  clear hW
  go_upto_region 2 with fail
  clear k0
  refine wp_region_lit ?_
  refine Slim.seg0 (s := 6) (n := 106) (j3 := 2) (fld := 5) (B := B) (kv := .int .i64 m.kind) (z := .int .i64 0) (xv := .int .i64 m.slot) (Wc := ((Ms.has m.kind).contains 115)) (X := (m.slot == 0)) (na := ⟨B, 5, none⟩) (by decide) (by decide) rfl rfl rfl rfl (by go_simp; first | done | rfl) (with_any m.kind 115 W) (by go_simp; first | done | rfl) (by have k := BX.out.cell 5; go_simp; first | done | rfl) (by go_simp; first | done | rfl) fun a1 d1 z1 p1 q1 v1 => ?_
  refine Slim.seg (s := 14) (n := 106) (j3 := 10) (fld := 6) (B := B) (kv := .int .i64 m.kind) (z := .int .i64 0) (xv := .int .i64 m.gen) (Wc := ((Ms.has m.kind).contains 103)) (X := (m.gen == 0)) (na := ⟨B, 6, none⟩) (sp := 13) (jp := 7) (b := (((Ms.has m.kind).contains 115) || (m.slot == 0))) (by decide) (by decide) z1 rfl rfl v1 rfl p1 q1 (by go_simp; first | done | rfl) (with_any m.kind 103 W) (by go_simp; first | done | rfl) (by have k := BX.out.cell 6; go_simp; first | done | rfl) (by go_simp; first | done | rfl) fun a2 d2 z2 p2 q2 v2 => ?_
  refine Slim.seg (s := 23) (n := 106) (j3 := 19) (fld := 7) (B := B) (kv := .int .i64 m.kind) (z := .int .i64 0) (xv := .int .i64 m.frame) (Wc := ((Ms.has m.kind).contains 102)) (X := (m.frame == 0)) (na := ⟨B, 7, none⟩) (sp := 22) (jp := 16) (b := ((((Ms.has m.kind).contains 115) || (m.slot == 0)) && (((Ms.has m.kind).contains 103) || (m.gen == 0)))) (by decide) (by decide) z2 rfl rfl v2 rfl p2 q2 (by go_simp; first | done | rfl) (with_any m.kind 102 W) (by go_simp; first | done | rfl) (by have k := BX.out.cell 7; go_simp; first | done | rfl) (by go_simp; first | done | rfl) fun a3 d3 z3 p3 q3 v3 => ?_
  refine Slim.seg (s := 32) (n := 106) (j3 := 28) (fld := 8) (B := B) (kv := .int .i64 m.kind) (z := .int .i64 0) (xv := .int .i64 m.code) (Wc := ((Ms.has m.kind).contains 99)) (X := (m.code == 0)) (na := ⟨B, 8, none⟩) (sp := 31) (jp := 25) (b := (((((Ms.has m.kind).contains 115) || (m.slot == 0)) && (((Ms.has m.kind).contains 103) || (m.gen == 0))) && (((Ms.has m.kind).contains 102) || (m.frame == 0)))) (by decide) (by decide) z3 rfl rfl v3 rfl p3 q3 (by go_simp; first | done | rfl) (with_any m.kind 99 W) (by go_simp; first | done | rfl) (by have k := BX.out.cell 8; go_simp; first | done | rfl) (by go_simp; first | done | rfl) fun a4 d4 z4 p4 q4 v4 => ?_
  refine Slim.seg (s := 41) (n := 106) (j3 := 37) (fld := 9) (B := B) (kv := .int .i64 m.kind) (z := .int .i64 0) (xv := .int .i64 m.n) (Wc := ((Ms.has m.kind).contains 110)) (X := (m.n == 0)) (na := ⟨B, 9, none⟩) (sp := 40) (jp := 34) (b := ((((((Ms.has m.kind).contains 115) || (m.slot == 0)) && (((Ms.has m.kind).contains 103) || (m.gen == 0))) && (((Ms.has m.kind).contains 102) || (m.frame == 0))) && (((Ms.has m.kind).contains 99) || (m.code == 0)))) (by decide) (by decide) z4 rfl rfl v4 rfl p4 q4 (by go_simp; first | done | rfl) (with_any m.kind 110 W) (by go_simp; first | done | rfl) (by have k := BX.out.cell 9; go_simp; first | done | rfl) (by go_simp; first | done | rfl) fun a5 d5 z5 p5 q5 v5 => ?_
  refine Slim.seg (s := 50) (n := 106) (j3 := 46) (fld := 10) (B := B) (kv := .int .i64 m.kind) (z := .int .i64 0) (xv := .int .i64 m.of) (Wc := ((Ms.has m.kind).contains 111)) (X := (m.of == 0)) (na := ⟨B, 10, none⟩) (sp := 49) (jp := 43) (b := (((((((Ms.has m.kind).contains 115) || (m.slot == 0)) && (((Ms.has m.kind).contains 103) || (m.gen == 0))) && (((Ms.has m.kind).contains 102) || (m.frame == 0))) && (((Ms.has m.kind).contains 99) || (m.code == 0))) && (((Ms.has m.kind).contains 110) || (m.n == 0)))) (by decide) (by decide) z5 rfl rfl v5 rfl p5 q5 (by go_simp; first | done | rfl) (with_any m.kind 111 W) (by go_simp; first | done | rfl) (by have k := BX.out.cell 10; go_simp; first | done | rfl) (by go_simp; first | done | rfl) fun a6 d6 z6 p6 q6 v6 => ?_
  refine Slim.seg (s := 59) (n := 106) (j3 := 55) (fld := 11) (B := B) (kv := .int .i64 m.kind) (z := .int .u32 0) (xv := .int .u32 m.bits) (Wc := ((Ms.has m.kind).contains 98)) (X := (m.bits == 0)) (na := ⟨B, 11, none⟩) (sp := 58) (jp := 52) (b := ((((((((Ms.has m.kind).contains 115) || (m.slot == 0)) && (((Ms.has m.kind).contains 103) || (m.gen == 0))) && (((Ms.has m.kind).contains 102) || (m.frame == 0))) && (((Ms.has m.kind).contains 99) || (m.code == 0))) && (((Ms.has m.kind).contains 110) || (m.n == 0))) && (((Ms.has m.kind).contains 111) || (m.of == 0)))) (by decide) (by decide) z6 rfl rfl v6 rfl p6 q6 (by go_simp; first | done | rfl) (with_any m.kind 98 W) (by go_simp; first | done | rfl) (by have k := BX.out.cell 11; go_simp; first | done | rfl) (by go_simp; first | done | rfl) fun a7 d7 z7 p7 q7 v7 => ?_
  refine Slim.seg (s := 68) (n := 106) (j3 := 64) (fld := 12) (B := B) (kv := .int .i64 m.kind) (z := .int .u64 0) (xv := .int .u64 m.sum) (Wc := ((Ms.has m.kind).contains 109)) (X := (m.sum == 0)) (na := ⟨B, 12, none⟩) (sp := 67) (jp := 61) (b := (((((((((Ms.has m.kind).contains 115) || (m.slot == 0)) && (((Ms.has m.kind).contains 103) || (m.gen == 0))) && (((Ms.has m.kind).contains 102) || (m.frame == 0))) && (((Ms.has m.kind).contains 99) || (m.code == 0))) && (((Ms.has m.kind).contains 110) || (m.n == 0))) && (((Ms.has m.kind).contains 111) || (m.of == 0))) && (((Ms.has m.kind).contains 98) || (m.bits == 0)))) (by decide) (by decide) z7 rfl rfl v7 rfl p7 q7 (by go_simp; first | done | rfl) (with_any m.kind 109 W) (by go_simp; first | done | rfl) (by have k := BX.out.cell 12; go_simp; first | done | rfl) (by go_simp; first | done | rfl) fun a8 d8 z8 p8 q8 v8 => ?_
  refine Slim.segl (s := 77) (n := 106) (j3 := 73) (fld := 13) (B := B) (kv := .int .i64 m.kind) (z := .int .i64 0) (xv := .slice ai m.ins.length ci) (Wc := ((Ms.has m.kind).contains 105)) (X := ((m.ins.length : Int) == 0)) (na := ⟨B, 13, none⟩) (sp := 76) (jp := 70) (b := ((((((((((Ms.has m.kind).contains 115) || (m.slot == 0)) && (((Ms.has m.kind).contains 103) || (m.gen == 0))) && (((Ms.has m.kind).contains 102) || (m.frame == 0))) && (((Ms.has m.kind).contains 99) || (m.code == 0))) && (((Ms.has m.kind).contains 110) || (m.n == 0))) && (((Ms.has m.kind).contains 111) || (m.of == 0))) && (((Ms.has m.kind).contains 98) || (m.bits == 0))) && (((Ms.has m.kind).contains 109) || (m.sum == 0)))) (lv := .int .i64 (m.ins.length : Int)) (by decide) (by decide) z8 rfl rfl v8 rfl p8 q8 (by go_simp; first | done | rfl) (with_any m.kind 105 W) (by go_simp; first | done | rfl) (by have k := BX.out.cell 13; go_simp; first | done | rfl) (by go_simp; first | done | rfl) (by go_simp; first | done | rfl) fun a9 d9 z9 p9 q9 v9 => ?_
  refine Slim.segl (s := 87) (n := 106) (j3 := 83) (fld := 14) (B := B) (kv := .int .i64 m.kind) (z := .int .i64 0) (xv := .slice al m.log.length cl) (Wc := ((Ms.has m.kind).contains 108)) (X := ((m.log.length : Int) == 0)) (na := ⟨B, 14, none⟩) (sp := 86) (jp := 80) (b := (((((((((((Ms.has m.kind).contains 115) || (m.slot == 0)) && (((Ms.has m.kind).contains 103) || (m.gen == 0))) && (((Ms.has m.kind).contains 102) || (m.frame == 0))) && (((Ms.has m.kind).contains 99) || (m.code == 0))) && (((Ms.has m.kind).contains 110) || (m.n == 0))) && (((Ms.has m.kind).contains 111) || (m.of == 0))) && (((Ms.has m.kind).contains 98) || (m.bits == 0))) && (((Ms.has m.kind).contains 109) || (m.sum == 0))) && (((Ms.has m.kind).contains 105) || ((m.ins.length : Int) == 0)))) (lv := .int .i64 (m.log.length : Int)) (by decide) (by decide) z9 rfl rfl v9 rfl p9 q9 (by go_simp; first | done | rfl) (with_any m.kind 108 W) (by go_simp; first | done | rfl) (by have k := BX.out.cell 14; go_simp; first | done | rfl) (by go_simp; first | done | rfl) (by go_simp; first | done | rfl) fun a10 d10 z10 p10 q10 v10 => ?_
  refine Slim.sege (s := 97) (n := 106) (j3 := 93) (fld := 15) (B := B) (kv := .int .i64 m.kind) (z := .int .i64 0) (xv := .slice ad m.data.length cd) (Wc := ((Ms.has m.kind).contains 100)) (X := ((m.data.length : Int) == 0)) (na := ⟨B, 15, none⟩) (sp := 96) (jp := 90) (b := ((((((((((((Ms.has m.kind).contains 115) || (m.slot == 0)) && (((Ms.has m.kind).contains 103) || (m.gen == 0))) && (((Ms.has m.kind).contains 102) || (m.frame == 0))) && (((Ms.has m.kind).contains 99) || (m.code == 0))) && (((Ms.has m.kind).contains 110) || (m.n == 0))) && (((Ms.has m.kind).contains 111) || (m.of == 0))) && (((Ms.has m.kind).contains 98) || (m.bits == 0))) && (((Ms.has m.kind).contains 109) || (m.sum == 0))) && (((Ms.has m.kind).contains 105) || ((m.ins.length : Int) == 0))) && (((Ms.has m.kind).contains 108) || ((m.log.length : Int) == 0)))) (lv := .int .i64 (m.data.length : Int)) (by decide) (by decide) z10 rfl rfl v10 rfl p10 q10 (by go_simp; first | done | rfl) (with_any m.kind 100 W) (by go_simp; first | done | rfl) (by have k := BX.out.cell 15; go_simp; first | done | rfl) (by go_simp; first | done | rfl) (by go_simp; first | done | rfl) fun a11 d11 z11 p11 q11 v11 => ?_
  refine Slim.val (t := 2) (v := .bool (Ms.bare m)) rfl (by rw [z11]; decide) (Slim.wants_all rfl) ((Slim.go_assign rfl).trans (by rw [Slim.eval_tmp v11]; rfl)) fun a12 o12 => ?_
  refine wpList_nil ?_
  have DF : a12.defers = [] := o12.defers.trans (d11.trans (d10.trans (d9.trans (d8.trans (d7.trans (d6.trans (d5.trans (d4.trans (d3.trans (d2.trans d1))))))))))
  have RS := o12.here
  have HBS := qh hBs
  clear hBs d1 d2 d3 d4 d5 d6 d7 d8 d9 d10 d11 z1 z2 z3 z4 z5 z6 z7 z8 z9 z10 z11 p1 p2 p3 p4 p5 p6 p7 p8 p9 p10 p11 q1 q2 q3 q4 q5 q6 q7 q8 q9 q10 q11 v1 v2 v3 v4 v5 v6 v7 v8 v9 v10 v11 o12
  go_wp2
  (try simp only [Exit.inBlock, Exit.then])
  exact on_ret rfl DF RS ⟨rfl, by rw [HBS.out]; exact HO.out⟩
end Go.Proofs.Ytgmlbimgcifenaa
namespace Go.Proofs.Ytgmlbimgcifenaa
open Go.RowKit
section
variable {w : World} {B : Nat} {g : Gm.G} {s : Value}
end
theorem cells_one (g : Gm.G) (s : Value) (h : s.oneCell' = true) : (Gm.cells g s).all (·.oneCell') = true := by
  refine Array.all_eq_true_iff_forall_mem.2 fun v hv => ?_
  have hv : v ∈ [Value.int .i64 g.frame, Value.int .u64 g.dice] ++ Gm.shipCells g.ship ++ [s] := by simpa [Gm.cells] using hv
  simp only [Gm.shipCells, Gm.Ship.cells, List.mem_append, List.mem_cons, List.not_mem_nil, or_false] at hv
  rcases hv with ((rfl | rfl) | hv) | rfl
  · rfl
  · rfl
  · rcases hv with hv | hv | hv | hv | hv | hv | hv | hv <;> (rcases hv with rfl | rfl | rfl | rfl | rfl | rfl | rfl <;> rfl)
  · exact h
section
variable {ops : Array Oper} {rest : List Oper} {o : Oper} {a : Act} {w : World} {Q : Exit → Act → World → Prop}
end
end Go.Proofs.Ytgmlbimgcifenaa
namespace Go.Proofs.Ytgmlbimgcifenaa
open Go.ChangeShapes Go.WideShapes Go.ChangeAt Go.RowKit Go.Joins Go.ChangeMaps Go.Deep
section
variable {H : Type} {enc : TypeId × Value → H} {w : World} {base : Nat} {spare : Nat → Bool} {held : Bool}
theorem trod_in {fuel : Nat} {a b c : Value} {y : DataW H × List MemPlace} (h : DataW.trod enc Try.prog w base spare held fuel 50 [a, b, c] = some y) : ∃ q : Gm.In, [a, b, c] = q.cells ∧ Gm.tyIn q ∧ y.2 = [] := by
  obtain ⟨y0, y1, y2, n, hx, _, h0, h1, h2⟩ := trod_struct3 Try.underlying50 h
  obtain ⟨x0, e0, rfl, w0⟩ := DataW.trod_int Try.underlying48 h0
  obtain ⟨x1, e1, rfl, w1⟩ := DataW.trod_int Try.underlying48 h1
  obtain ⟨x2, e2, rfl, w2⟩ := DataW.trod_int Try.underlying5 h2
  have c8 : Try.prog.cellsOf 48 = 1 := by kernel_rfl
  have cu : Try.prog.cellsOf 5 = 1 := by kernel_rfl
  simp [c8, cu] at e0 e1 e2
  subst e0 e1 e2
  exact ⟨⟨x0, x1, x2⟩, rfl, ⟨Bd.i8 w0, Bd.i8 w1, Bd.u8 w2⟩, by rw [hx]; rfl⟩
theorem cut24 {α : Type} (l : List α) (h : l.length = 24) : l = (l.drop (0 * 3)).take 3 ++ ((l.drop (1 * 3)).take 3 ++ ((l.drop (2 * 3)).take 3 ++ ((l.drop (3 * 3)).take 3 ++ ((l.drop (4 * 3)).take 3 ++ ((l.drop (5 * 3)).take 3 ++ ((l.drop (6 * 3)).take 3 ++ ((l.drop (7 * 3)).take 3))))))) := by
  match l, h with
  | [a0, a1, a2, a3, a4, a5, a6, a7, a8, a9, a10, a11, a12, a13, a14, a15, a16, a17, a18, a19, a20, a21, a22, a23], _ => rfl
end
end Go.Proofs.Ytgmlbimgcifenaa
namespace Gm
def inCells (l : List In) : List Go.Value := l.flatMap In.cells
theorem inCells_len (l : List In) : (inCells l).length = l.length * 3 := by
  induction l with
  | nil => rfl
  | cons s l ih => unfold inCells at *; rw [List.flatMap_cons, List.length_append, ih, List.length_cons]; simp [In.cells]; omega
theorem inCells_at (l : List In) (k j : Nat) (hk : k < l.length) (hj : j < 3) : (inCells l)[k * 3 + j]? = l[k].cells[j]? := by
  induction l generalizing k with
  | nil => simp at hk
  | cons s l ih =>
    unfold inCells at *
    rw [List.flatMap_cons]
    match k with
    | 0 => rw [List.getElem?_append_left (by simp [In.cells]; omega)]; simp
    | k + 1 =>
      rw [List.getElem?_append_right (by simp [In.cells]; omega)]
      have := ih k (by simpa using hk)
      rw [show (k + 1) * 3 + j - s.cells.length = k * 3 + j from by simp [In.cells]; omega, this]
      simp
end Gm
namespace Go.Proofs.Ytgmlbimgcifenaa
open Go.ChangeShapes Go.WideShapes Go.ChangeAt Go.RowKit Go.Joins Go.ChangeMaps Go.Deep
section
variable {H : Type} {enc : TypeId × Value → H} {w : World} {base : Nat} {spare : Nat → Bool} {held : Bool}
end
end Go.Proofs.Ytgmlbimgcifenaa
namespace En
open Go
theorem and_bit : ∀ (m : Fin 256) (k : Fin 8), bits .and .i64 ((m.val : Nat) : Int) (IntKind.i64.wrap (2 ^ k.val)) = if m.val.testBit k.val then (2 : Int) ^ k.val else 0 := by decide +kernel
theorem or_bit : ∀ (m : Fin 256) (k : Fin 8), m.val < 2 ^ k.val → bits .or .i64 ((m.val : Nat) : Int) (IntKind.i64.wrap (2 ^ k.val)) = ((m.val + 2 ^ k.val : Nat) : Int) := by decide +kernel
theorem and_yes {m k : Nat} (hm : m < 256) (hk : k < 8) (h : m.testBit k = true) : ∃ q : Int, bits .and .i64 (m : Int) (RowKit.wrap64 (2 ^ k)) = q ∧ (q != 0) = true := by
  have := and_bit ⟨m, hm⟩ ⟨k, hk⟩
  dsimp only at this
  rw [h, IntWalk.i64_left] at this
  refine ⟨_, this, ?_⟩
  have hp : (0 : Int) < 2 ^ k := Int.pow_pos (by decide)
  simp only [if_true, bne_iff_ne, ne_eq]
  omega
theorem and_no {m k : Nat} (hm : m < 256) (hk : k < 8) (h : m.testBit k = false) : ∃ q : Int, bits .and .i64 (m : Int) (RowKit.wrap64 (2 ^ k)) = q ∧ (q != 0) = false := by
  have := and_bit ⟨m, hm⟩ ⟨k, hk⟩
  dsimp only at this
  rw [h, IntWalk.i64_left] at this
  exact ⟨_, this, rfl⟩
end En
namespace Go.Proofs.Ytgmlbimgcifenaa
open Go.RowKit Go.Shelf
theorem in_neq (x y b : Int) (w : World) : (binOp .neq 50 (.agg #[.int .i8 x, .int .i8 y, .int .u8 b]) (.agg #[.int .i8 0, .int .i8 0, .int .u8 0])).run Try.prog w = .ok (.bool (!En.zero ⟨x, y, b⟩)) w := by
  have h : (Op.equalIn 10000 50 (.agg #[.int .i8 x, .int .i8 y, .int .u8 b]) (.agg #[.int .i8 0, .int .i8 0, .int .u8 0])).run Try.prog w = .ok (En.zero ⟨x, y, b⟩) w := by
    by_cases h1 : x = 0
    · by_cases h2 : y = 0
      · by_cases h3 : b = 0
        · subst h1 h2 h3; go_simp <;> simp [En.zero]
        · have h4 : (b == 0) = false := by simpa using h3
          subst h1 h2; go_simp <;> simp [h4, h3, En.zero]
      · have h4 : (y == 0) = false := by simpa using h2
        subst h1; go_simp <;> simp [h4, h2, En.zero]
    · have h4 : (x == 0) = false := by simpa using h1
      go_simp <;> simp [h4, h1, En.zero]
  generalize #[Value.int .i8 x, .int .i8 y, .int .u8 b] = F at *
  generalize #[Value.int .i8 0, .int .i8 0, .int .u8 0] = G at *
  go_simp
theorem layinput_w (p : Gm.In) (P o : Nat) (t : TypeId) (cs : Array Value) (bs : List Int) (b Bb Bp : Nat) (w : World) (hty : Gm.tyIn p) (hz : En.zero p = false) (hbB : b ≤ Bb) (h : Wr b Bb Bp bs w) (hl : bs.length + 3 ≤ 65536) (hP : Box w P t cs) (hc : ∀ j, j < 3 → cs[o + j]? = p.cells[j]?) (h1 : t ≠ 27) (h2 : t ≠ 5) (h3 : t ≠ 68) :
    Calls Try.prog 98 #[.func (.func 54) #[] #[.pointer (some ⟨Bp, 0, none⟩)], .pointer (some ⟨P, o, none⟩)] w fun e w' => e = .returned (.tuple #[]) ∧ Wr b Bb Bp (bs ++ En.inBytes p) w' ∧ Wrote b Bb w w' := by
  obtain ⟨x, y, u⟩ := p
  have hneq := fun W => in_neq x y u W
  rw [hz] at hneq
  obtain ⟨t1, t2, t3⟩ := hty
  dsimp only at t1 t2 t3
  have s0 := hc 0 (by omega)
  have s1 := hc 1 (by omega)
  have s2 := hc 2 (by omega)
  simp only [Gm.In.cells, List.getElem?_cons_zero, List.getElem?_cons_succ, Nat.add_zero] at s0 s1 s2
  have c1 := qh (layi8_w 1 1 rfl x P o t cs bs b Bb Bp w (by decide) t1 hbB h (by omega) hP s0 h1 h2 h3)
  have c2 := fun X (hX : Wr b Bb Bp (bs ++ Im.bytesOf 1 (IntKind.u64.wrap x)) X) hB => qh (layi8_w 1 1 rfl y P (o + 1) t cs _ b Bb Bp X (by decide) t2 hbB hX (by rw [List.length_append, Im.bytesOf_len]; omega) hB s1 h1 h2 h3)
  have c3 := fun X (hX : Wr b Bb Bp (bs ++ Im.bytesOf 1 (IntKind.u64.wrap x) ++ Im.bytesOf 1 (IntKind.u64.wrap y)) X) hB => qh (layu8_w 1 1 rfl u P (o + 2) t cs _ b Bb Bp X (by decide) t3 hbB hX (by rw [List.length_append, List.length_append, Im.bytesOf_len, Im.bytesOf_len]; omega) hB s2 h1 h2 h3)
  have HH := qh h
  have P0 := qh hP
  have ltP := hP.lt
  have HE := qh (show bs ++ Im.bytesOf 1 (IntKind.u64.wrap x) ++ Im.bytesOf 1 (IntKind.u64.wrap y) ++ Im.bytesOf 1 (IntKind.u64.wrap u) = bs ++ En.inBytes ⟨x, y, u⟩ by rw [En.bytesOf_wrap1, En.bytesOf_wrap1, En.bytesOf_wrap1]; unfold En.inBytes; simp only [List.append_assoc])
  have S0 := qh s0
  have S1 := qh s1
  have S2 := qh s2
  clear h hP hc hz s0 s1 s2
  go_enter Try.func98, Try.ntmps98
  go_wp2_with (first | (go_at_call 30; ((with_reducible refine (need_yes _ _).mono ?_); rintro e wn ⟨rfl, rfl⟩)) | (go_at_call 86; first | ((with_reducible refine (c1.out).mono ?_); rintro e w1 ⟨rfl, hI, hK⟩; have P1 := qh (P0.out.wrote' hK HH.out.isvar h1 h2); have I1 := qh hI; have K1 := qh hK; clear hI hK c1) | ((with_reducible refine ((c2 _ I1.out P1.out).out).mono ?_); rintro e w2 ⟨rfl, hI, hK⟩; have P2 := qh (P1.out.wrote' hK I1.out.isvar h1 h2); have I2 := qh hI; have K2 := qh (K1.out.trans hK); clear hI hK)) | (go_at_call 87; ((with_reducible refine ((c3 _ I2.out P2.out).out).mono ?_); rintro e w3 ⟨rfl, hI, hK⟩; have P3 := P2.out.wrote' hK I2.out.isvar h1 h2; have p0 := (P3.cell o).trans S0.out; have p1 := (P3.cell (o + 1)).trans S1.out; have p2 := (P3.cell (o + 2)).trans S2.out; have I3 := qh hI; have K3 := qh (K2.out.trans hK); clear hI hK P3)))
  go_end0
  exact ⟨rfl, by rw [← HE.out]; exact I3.out, K3.out⟩
theorem layinputs_w (e : En.E) (s : Value) (B : Nat) (bs : List Int) (b Bb Bp : Nat) (w : World) (hty : ∀ i, i < 8 → Gm.tyIn (e.inp i)) (hbB : b ≤ Bb) (h : Wr b Bb Bp bs w) (hl : bs.length + 25 ≤ 65536) (hP : Box w B 53 (En.cells e s)) :
    Calls Try.prog 97 #[.func (.func 54) #[] #[.pointer (some ⟨Bp, 0, none⟩)], .pointer (some ⟨B, 0, none⟩)] w fun r w' => r = .returned (.tuple #[]) ∧ Wr b Bb Bp (bs ++ (Im.bytesOf 1 (En.mask e.inp 8) ++ En.insBytes e.inp 8)) w' ∧ Wrote b Bb w w' := by
  have ltP := hP.lt
  have P0 := qh hP
  have W0 := qh h
  clear h hP
  go_enter Try.func97, Try.ntmps97
  go_wp2_with ((with_reducible refine en_load_ins rfl rfl ?_); apply LoadEn.mk rfl; (focus (with_reducible exact P0.out.alloc _)); dsimp only)
  go_loopw [12] (fun i wr => ∃ k : Nat, k ≤ 8 ∧ i = .int .i64 k ∧ Wr b Bb Bp bs wr ∧ Wrote b Bb w wr ∧ Box wr w.heap.size 3 #[.int .i64 (En.mask e.inp k : Nat)]) (fun i _ => 8 - (intOf i).toNat)
  case atStart => exact ⟨0, by omega, rfl, W0.out.alloc _, (Wrote.refl hbB w).alloc _, Box.made _ _ _⟩
  case round =>
    obtain ⟨k, hk, rfl, hI, hK, hD⟩ := hrel
    by_cases hlt : k < 8
    · have hk8 : (k : Int) < 8 := by omega
      have hpart := in_index e.inp k hlt
      have hml := En.mask_lt e.inp k
      have hp8 : 2 ^ k < 2 ^ 8 := Nat.pow_lt_pow_right (by decide) hlt
      have hms : En.mask e.inp (k + 1) = En.mask e.inp k + (if En.zero (e.inp k) = true then 0 else 2 ^ k) := rfl
      obtain ⟨m, hm⟩ : ∃ m, m = En.mask e.inp k := ⟨_, rfl⟩
      obtain ⟨p, hp⟩ : ∃ p, p = e.inp k := ⟨_, rfl⟩
      rw [← hm] at hml hms hD
      rw [← hp] at hms hpart
      obtain ⟨x, y, u⟩ := p
      dsimp only at hpart
      have hneq := fun W => in_neq x y u W
      have hor := En.or_bit ⟨m, by omega⟩ ⟨k, hlt⟩ hml
      dsimp only at hor
      have HI := qh hI
      have HK := qh hK
      have HD := qh hD
      have HOR := qh hor
      have d1 := fun o => (hD.alloc o).cell 0
      have d2 := fun o => (hD.alloc o).free 0
      have sz := hK.size
      clear hI hK hD hor hm hp
      cases hz : En.zero ⟨x, y, u⟩
      · rw [hz] at hms hneq
        have HMS := qh hms
        clear hms hz
        go_upto_region 5 with fail
        obtain ⟨V, hV⟩ : ∃ V, V = wr.alloc (.cells #[.int .i8 x, .int .i8 y, .int .u8 u] 50) := ⟨_, rfl⟩
        have DV := qh (show Box V w.heap.size 3 #[.int .i64 (m : Nat)] from hV ▸ HD.out.alloc _)
        have IV := qh (show Wr b Bb Bp bs V from hV ▸ HI.out.alloc _)
        have KV := qh (show Wrote b Bb w V from hV ▸ HK.out.alloc _)
        first | rw [← hV] | skip
        refine Rx.wp_region_lex0 (by kernel_rfl) [] (by kernel_rfl) (· = V.drew) (fun W => Box W w.heap.size 3 #[.int .i64 (m : Nat)]) (fun _ => True) rfl (fun W hW => ⟨hW ▸ DV.out.drew, trivial⟩) ?_
        repeat (first
          | (apply Rx.lex_free rfl rfl; focus (intro _; go_simp; first | done | rfl))
          | (apply Rx.lex_look rfl rfl rfl rfl; focus (intro W hW; have c0 := Box.cell hW; clear hW; go_simp; first | done | rfl)))
        refine Rx.lex_store rfl rfl (C' := (· = V.drew.setCell ⟨w.heap.size, 0, none⟩ (.int .i64 ((m + 2 ^ k : Nat) : Int)))) (D' := fun _ => True) (fun W hW => ⟨_, ?_, rfl⟩) (fun _ _ => ⟨trivial, trivial⟩) ?_
        focus (subst hW; have f2 := DV.out.drew.free; have k2 := DV.out.drew.cell; rw [← HOR.out]; go_simp; first | done | rfl)
        refine Rx.lex_end fun W2 hW2 => ?_
        have I2 := qh (show Wr b Bb Bp bs W2 from hW2 ▸ (IV.out.call (one_below' V)).off (p := ⟨w.heap.size, 0, none⟩) DV.out.drew (by decide) (by decide) (by decide) _)
        have K2 := qh (show Wrote b Bb w W2 from hW2 ▸ KV.out.drew.fresh (p := ⟨w.heap.size, 0, none⟩) (Nat.le_refl _) _)
        have D2 := qh (show Box W2 w.heap.size 3 #[.int .i64 ((m + 2 ^ k : Nat) : Int)] from hW2 ▸ DV.out.drew.put 0 _)
        clear hW2
        go_wp2
        go_roundw
        case rel => exact ⟨k + 1, by omega, by go_num, I2.out, K2.out, by rw [HMS.out]; exact D2.out⟩
        case measure => simp [intOf]; omega
      · rw [hz] at hms hneq
        have HMS := qh hms
        clear hms hz
        go_wp2
        go_roundw
        case rel => exact ⟨k + 1, by omega, by go_num, HI.out.alloc _, HK.out.alloc _, by rw [HMS.out]; exact HD.out.alloc _⟩
        case measure => simp [intOf]; omega
    · have hk8 : ¬ (k : Int) < 8 := by omega
      obtain rfl : k = 8 := by omega
      have hm8 := En.mask_lt e.inp 8
      have hbit := fun j hj => En.mask_bit e.inp 8 j hj
      obtain ⟨m, hm⟩ : ∃ m, m = En.mask e.inp 8 := ⟨_, rfl⟩
      rw [← hm] at hD hm8 hbit
      have HM := qh hm
      have hwm : IntKind.u64.wrap (m : Int) = m := by rw [IntKind.wrap_u64]; omega
      have c1 := qh (layint_w 1 1 rfl m w.heap.size 0 3 #[.int .i64 m] bs b Bb Bp wr (by decide) (by omega) hbB hI (by omega) hD rfl (by decide) (by decide) (by decide))
      rw [hwm] at c1
      have HIV := qh hI.isvar
      have HD := qh hD
      have PB := qh (P0.out.wrote' hK W0.out.isvar (by decide) (by decide))
      have HK := qh hK
      have HBIT := qh hbit
      clear hI hK hD hm hwm hbit
      go_wp2_with (go_at_call 51; ((with_reducible refine (c1.out).mono ?_); rintro r w1 ⟨rfl, hI1, hK1⟩; have D1 := qh (HD.out.wrote' hK1 HIV.out (by decide) (by decide)); have P1 := qh (PB.out.wrote' hK1 HIV.out (by decide) (by decide)); have I1 := qh hI1; have K1 := qh (HK.out.trans hK1); clear hI1 hK1 c1))
      go_loopw [26] (fun i wx => ∃ k : Nat, k ≤ 8 ∧ i = .int .i64 k ∧ Wr b Bb Bp (bs ++ Im.bytesOf 1 m ++ En.insBytes e.inp k) wx ∧ Wrote b Bb w1 wx) (fun i _ => 8 - (intOf i).toNat)
      case atStart => exact ⟨0, by omega, rfl, by simpa [En.insBytes] using I1.out, Wrote.refl hbB w1⟩
      case round =>
        obtain ⟨k, hk, rfl, hI, hK⟩ := hrel
        have D2 := qh (D1.out.wrote' hK I1.out.isvar (by decide) (by decide))
        have P2 := qh (P1.out.wrote' hK I1.out.isvar (by decide) (by decide))
        by_cases hlt : k < 8
        · have hk8 : (k : Int) < 8 := by omega
          have hb8 := HBIT.out k hlt
          have hsb : En.insBytes e.inp (k + 1) = En.insBytes e.inp k ++ (if En.zero (e.inp k) = true then [] else En.inBytes (e.inp k)) := rfl
          have hlen := En.insBytes_le e.inp k
          have hc := fun j hj => En.cells_in e s k j hlt hj
          have ht := hty k hlt
          obtain ⟨p, hp⟩ : ∃ p, p = e.inp k := ⟨_, rfl⟩
          rw [← hp] at hb8 hsb ht
          simp only [← hp] at hc
          have HI := qh hI
          have HK := qh hK
          have d1 := D2.out.cell 0
          have ltB := P2.out.lt
          cases hz : En.zero p
          · rw [hz] at hb8 hsb
            obtain ⟨q, hq1, hq2⟩ := En.and_yes (by omega) hlt hb8
            have HSB := qh hsb
            have HC := qh hc
            have HT := qh ht
            have HZ := qh hz
            clear hI hK hsb hc ht hz hb8 hp
            go_upto_region 11 with fail
            go_quiet (fail)
            have sdr : ∀ n, Wrote b Bb w1 (wr.drewN n) := fun n => HK.out.call (draws_below (Below.refl _ _) n)
            have cl := fun n => qh (layinput_w p B (2 + k * 3) 53 _ _ b Bb Bp (wr.drewN n) HT.out HZ.out hbB (HI.out.call (draws_below (Below.refl _ _) n)) (by rw [List.length_append, List.length_append, Im.bytesOf_len]; omega) (P2.out.draws n) HC.out (by decide) (by decide) (by decide))
            go_wp2_with (go_at_call 98; ((with_reducible refine ((cl _).out).mono ?_); rintro r w3 ⟨rfl, hI3, hK3⟩; have I3 := qh hI3; have K3 := qh ((sdr _).trans hK3); clear hI3 hK3))
            go_roundw
            case rel => exact ⟨k + 1, by omega, by go_num, by rw [HSB.out]; simpa using I3.out, K3.out⟩
            case measure => simp [intOf]; omega
          · rw [hz] at hb8 hsb
            obtain ⟨q, hq1, hq2⟩ := En.and_no (by omega) hlt hb8
            have HSB := qh hsb
            clear hI hK hsb hc ht hz hb8 hp
            go_upto_region 11 with fail
            go_quiet (fail)
            go_wp2
            go_roundw
            case rel => exact ⟨k + 1, by omega, by go_num, by rw [HSB.out]; simpa using HI.out.call (draws_below (Below.refl _ _) _), HK.out.call (draws_below (Below.refl _ _) _)⟩
            case measure => simp [intOf]; omega
        · have hk8 : ¬ (k : Int) < 8 := by omega
          obtain rfl : k = 8 := by omega
          have HI := qh hI
          have HK := qh hK
          clear hI hK
          go_wp2
          go_end0
          exact ⟨rfl, by rw [← HM.out, ← List.append_assoc]; exact HI.out, K1.out.trans HK.out⟩
end Go.Proofs.Ytgmlbimgcifenaa
namespace En
open Go
theorem set3_at {cs : Array Value} {o : Nat} {u0 u1 u2 x y z : Value} (h0 : cs[o]? = some u0) (h1 : cs[o + 1]? = some u1) (h2 : cs[o + 2]? = some u2) :
    (((cs.setIfInBounds o x).setIfInBounds (o + 1) y).setIfInBounds (o + 2) z)[o]? = some x ∧ (((cs.setIfInBounds o x).setIfInBounds (o + 1) y).setIfInBounds (o + 2) z)[o + 1]? = some y ∧ (((cs.setIfInBounds o x).setIfInBounds (o + 1) y).setIfInBounds (o + 2) z)[o + 2]? = some z := by
  have l0 := (Array.getElem?_eq_some_iff.1 h0).1
  have l1 := (Array.getElem?_eq_some_iff.1 h1).1
  have l2 := (Array.getElem?_eq_some_iff.1 h2).1
  refine ⟨?_, ?_, ?_⟩
  · rw [Array.getElem?_setIfInBounds_ne (by omega), Array.getElem?_setIfInBounds_ne (by omega), Array.getElem?_setIfInBounds_self, if_pos l0]
  · rw [Array.getElem?_setIfInBounds_ne (by omega), Array.getElem?_setIfInBounds_self, if_pos (by simpa using l1)]
  · rw [Array.getElem?_setIfInBounds_self, if_pos (by simpa using l2)]
end En
namespace Go.Proofs.Ytgmlbimgcifenaa
open Go.RowKit Go.Shelf
theorem need_any (v : Bool) (s : ByteArray) (w : World) : Calls Try.prog 30 #[.bool v, .string s] w fun e w' => (v = true ∧ e = .returned (.tuple #[]) ∧ w = w') ∨ (v = false ∧ Pan e ∧ w = w') := by
  cases v
  · exact (need_no s w).mono fun e w' ⟨h1, h2⟩ => .inr ⟨rfl, ⟨s, h1⟩, h2⟩
  · exact (need_yes s w).mono fun e w' ⟨h1, h2⟩ => .inl ⟨rfl, h1, h2⟩
theorem layinput_r (x0 y0 b0 : Int) (P o : Nat) (t : TypeId) (cs : Array Value) (bs : List Int) (b Bb Bp : Nat) (w : World) (hBy : Im.IsBytes bs) (hbB : b ≤ Bb) (hbP : b ≤ P) (hbw : b ≤ w.heap.size) (h : Rd b Bb Bp bs w) (hP : Box w P t cs) (s0 : cs[o]? = some (.int .i8 x0)) (s1 : cs[o + 1]? = some (.int .i8 y0)) (s2 : cs[o + 2]? = some (.int .u8 b0)) (h1 : t ≠ 27) (h2 : t ≠ 5) (h3 : t ≠ 68) :
    Calls Try.prog 98 #[.func (.func 60) #[] #[.pointer (some ⟨Bp, 0, none⟩)], .pointer (some ⟨P, o, none⟩)] w (Got b Bb Bp P t cs.size (En.decIn bs) (fun p => ((cs.setIfInBounds o (.int .i8 p.x)).setIfInBounds (o + 1) (.int .i8 p.y)).setIfInBounds (o + 2) (.int .u8 p.b)) w) := by
  have c1 := qh (part_i8 1 1 rfl x0 P o t cs bs b Bb Bp w (by decide) hBy hbB hbP hbw h hP s0 h1 h2 h3)
  have c2 := fun v bs' X hy hX1 hX2 hX3 => qh (part_i8 1 1 rfl y0 P (o + 1) t (cs.setIfInBounds o v) bs' b Bb Bp X (by decide) hy hbB hbP hX1 hX2 hX3 (by rw [Array.getElem?_setIfInBounds_ne (by omega), s1]) h1 h2 h3)
  have c3 := fun v v' bs' X hy hX1 hX2 hX3 => qh (part_u8 1 1 rfl b0 P (o + 2) t ((cs.setIfInBounds o v).setIfInBounds (o + 1) v') bs' b Bb Bp X (by decide) hy hbB hbP hX1 hX2 hX3 (by rw [Array.getElem?_setIfInBounds_ne (by omega), Array.getElem?_setIfInBounds_ne (by omega), s2]) h1 h2 h3)
  have hcell := fun x y z => qh (En.set3_at (x := x) (y := y) (z := z) s0 s1 s2)
  have hneq := in_neq
  have P0 := qh hP
  have ltP := hP.lt
  have HW := qh hbw
  have HY := qh hBy
  have hdec : En.decIn bs = (Im.rdn 1 bs).bind fun x => (Im.rdn 1 x.2).bind fun y => (Im.rdn 1 y.2).bind fun b => if En.zero ⟨IntKind.i8.wrap x.1, IntKind.i8.wrap y.1, b.1⟩ then none else some (⟨IntKind.i8.wrap x.1, IntKind.i8.wrap y.1, b.1⟩, b.2) := rfl
  have HD := qh hdec
  clear h hP s0 s1 s2 hdec hbw hBy
  go_enter Try.func98, Try.ntmps98
  go_wp2_with (first | (go_at_call 30; ((with_reducible refine (need_any _ _ _).mono ?_); rintro e wn (⟨hz, rfl, rfl⟩ | ⟨hz, ⟨ss, rfl⟩, rfl⟩))) | (go_at_call 86; first | ((with_reducible refine (c1.out).mono ?_); rintro e w1 (⟨y1, r1, hr, rfl, hI, hK, hB⟩ | ⟨hn, ⟨ss, rfl⟩, hK, cs', hB, hs⟩); (all_goals first | (have R1 := qh hr; have Y1 := qh (Im.rdn_inv HY.out hr).2.2.2; have P1 := qh hB; have I1 := qh hI; have K1 := qh hK; clear hr hI hK hB c1) | (have N1 := qh hn; have F1 := qh hK; have B1 := qh hB; have S1 := qh hs; clear hn hK hB hs c1))) | ((with_reducible refine ((c2 _ _ _ Y1.out (Nat.le_trans HW.out K1.out.below.size) I1.out P1.out).out).mono ?_); rintro e w2 (⟨y2, r2, hr, rfl, hI, hK, hB⟩ | ⟨hn, ⟨ss, rfl⟩, hK, cs', hB, hs⟩); (all_goals first | (have R2 := qh hr; have Y2 := qh (Im.rdn_inv Y1.out hr).2.2.2; have P2 := qh hB; have I2 := qh hI; have K2 := qh (K1.out.trans hK); clear hr hI hK hB c2) | (have N2 := qh hn; have F2 := qh (K1.out.trans hK); have B2 := qh hB; have S2 := qh (hs.trans (Array.size_setIfInBounds ..)); clear hn hK hB hs c2)))) | (go_at_call 87; ((with_reducible refine ((c3 _ _ _ _ Y2.out (Nat.le_trans HW.out K2.out.below.size) I2.out P2.out).out).mono ?_); rintro e w3 (⟨y3, r3, hr, rfl, hI, hK, hB⟩ | ⟨hn, ⟨ss, rfl⟩, hK, cs', hB, hs⟩); (all_goals first | (have R3 := qh hr; have P3 := qh hB; have I3 := qh hI; have K3 := qh (K2.out.trans hK); have p0 := (hB.cell o).trans (hcell _ _ _).out.1; have p1 := (hB.cell (o + 1)).trans (hcell _ _ _).out.2.1; have p2 := (hB.cell (o + 2)).trans (hcell _ _ _).out.2.2; clear hr hI hK hB c3) | (have N3 := qh hn; have F3 := qh (K2.out.trans hK); have B3 := qh hB; have S3 := qh (hs.trans ((Array.size_setIfInBounds ..).trans (Array.size_setIfInBounds ..))); clear hn hK hB hs c3)))))
  · go_end0
    refine .inl ⟨⟨IntKind.i8.wrap y1, IntKind.i8.wrap y2, y3⟩, r3, ?_, rfl, I3.out, K3.out, P3.out⟩
    rw [HD.out, R1.out, Option.bind_some, R2.out, Option.bind_some, R3.out, Option.bind_some, if_neg (by simpa using hz)]
  · refine ⟨rfl, .inr ⟨?_, ⟨_, rfl⟩, K3.out, _, P3.out, by simp⟩⟩
    rw [HD.out, R1.out, Option.bind_some, R2.out, Option.bind_some, R3.out, Option.bind_some, if_pos (by simpa using hz)]
  · refine ⟨rfl, .inr ⟨?_, ⟨_, rfl⟩, F3.out, _, B3.out, S3.out⟩⟩
    rw [HD.out, R1.out, Option.bind_some, R2.out, Option.bind_some, N3.out, Option.bind_none]
  · refine ⟨rfl, .inr ⟨?_, ⟨_, rfl⟩, F2.out, _, B2.out, S2.out⟩⟩
    rw [HD.out, R1.out, Option.bind_some, N2.out, Option.bind_none]
  · refine ⟨rfl, .inr ⟨?_, ⟨_, rfl⟩, F1.out, _, B1.out, S1.out⟩⟩
    rw [HD.out, N1.out, Option.bind_none]
theorem layinputs_r (fr : Int) (l : List En.Ev) (s : Value) (B : Nat) (bs : List Int) (b Bb Bp : Nat) (w : World) (hBy : Im.IsBytes bs) (hbB : b ≤ Bb) (hbP : b ≤ B) (hbw : b ≤ w.heap.size) (h : Rd b Bb Bp bs w) (hP : Box w B 53 (En.cells ⟨fr, l, En.in0⟩ s)) :
    Calls Try.prog 97 #[.func (.func 60) #[] #[.pointer (some ⟨Bp, 0, none⟩)], .pointer (some ⟨B, 0, none⟩)] w (Got b Bb Bp B 53 26 (En.decInputs En.in0 bs) (fun f => En.cells ⟨fr, l, f⟩ s) w) := by
  have ltP := hP.lt
  have P0 := qh hP
  have W0 := qh h
  have HW := qh hbw
  have HY := qh hBy
  clear h hP hbw hBy
  go_enter Try.func97, Try.ntmps97
  go_wp2_with ((with_reducible refine en_load_ins rfl rfl ?_); apply LoadEn.mk rfl; (focus (with_reducible exact P0.out.alloc _)); dsimp only)
  go_loopw [12] (fun i wr => ∃ k : Nat, k ≤ 8 ∧ i = .int .i64 k ∧ Rd b Bb Bp bs wr ∧ Rk b Bb B w wr ∧ Box wr B 53 (En.cells ⟨fr, l, En.in0⟩ s) ∧ Box wr w.heap.size 3 #[.int .i64 0]) (fun i _ => 8 - (intOf i).toNat)
  case atStart => exact ⟨0, by omega, rfl, W0.out.call (one_below _ _) HW.out, Rk.alloc HW.out _, P0.out.alloc _, Box.made _ _ _⟩
  case round =>
    obtain ⟨k, hk, rfl, hI, hK, hB, hD⟩ := hrel
    by_cases hlt : k < 8
    · have hk8 : (k : Int) < 8 := by omega
      have hpart := in_index En.in0 k hlt
      have hneq := fun W => in_neq 0 0 0 W
      rw [show En.zero ⟨0, 0, 0⟩ = true from rfl] at hneq
      have HI := qh hI
      have HK := qh hK
      have HB := qh hB
      have HD := qh hD
      have sz := hK.below.size
      clear hI hK hB hD
      simp only [En.in0] at hpart
      go_wp2
      go_roundw
      case rel => exact ⟨k + 1, by omega, by go_num, HI.out.call (one_below _ _) (Nat.le_trans HW.out sz), HK.out.trans (Rk.alloc (Nat.le_trans HW.out sz) _), HB.out.alloc _, HD.out.alloc _⟩
      case measure => simp [intOf]; omega
    · have hk8 : ¬ (k : Int) < 8 := by omega
      obtain rfl : k = 8 := by omega
      have c1 := qh (part_int 1 1 rfl 0 w.heap.size 0 3 #[.int .i64 0] bs b Bb Bp wr (by decide) HY.out hbB HW.out (Nat.le_trans HW.out hK.below.size) hI hD rfl (by decide) (by decide) (by decide))
      have HB := qh hB
      have HK := qh hK
      have neD : B ≠ w.heap.size := by omega
      clear hI hK hB hD
      go_wp2_with (go_at_call 51; ((with_reducible refine (c1.out).mono ?_); rintro r w1 (⟨m, r1, hr, rfl, hI, hK, hB1⟩ | ⟨hn, ⟨ss, rfl⟩, hK, cs', hB1, hs⟩); (all_goals first | (have R1 := qh hr; have Y1 := qh (Im.rdn_inv HY.out hr); have D1 := qh hB1; have P1 := qh (hK.kb _ _ _ HB.out neD (by decide) (by decide)); have I1 := qh hI; have K1 := qh (HK.out.local hK (Nat.le_refl _)); clear hr hI hK hB1 c1) | (have N1 := qh hn; have F1 := qh (HK.out.local hK (Nat.le_refl _)); have G1 := qh (hK.kb _ _ _ HB.out neD (by decide) (by decide)); clear hn hK hB1 hs c1))))
      rotate_left
      · refine ⟨rfl, .inr ⟨?_, ⟨_, rfl⟩, F1.out, _, G1.out, rfl⟩⟩
        unfold En.decInputs
        rw [N1.out, Option.bind_none]
      obtain ⟨mm, hmm⟩ : ∃ mm : Nat, m = mm := ⟨m.toNat, by have := Y1.out.2.1; omega⟩
      subst hmm
      have hm8 : mm < 256 := by have := Y1.out.2.2.1; omega
      have HDI := qh (show En.decInputs En.in0 bs = En.decIns mm 0 8 En.in0 r1 by unfold En.decInputs; rw [R1.out, Option.bind_some, Int.toNat_natCast])
      go_loopw [26] (fun i wx => ∃ (k : Nat) (f : Nat → Gm.In) (bs' : List Int), k ≤ 8 ∧ i = .int .i64 k ∧ Im.IsBytes bs' ∧ En.decIns mm 0 8 En.in0 r1 = En.decIns mm k (8 - k) f bs' ∧ Rd b Bb Bp bs' wx ∧ Rk b Bb B w1 wx ∧ Box wx B 53 (En.cells ⟨fr, l, f⟩ s)) (fun i _ => 8 - (intOf i).toNat)
      case atStart => exact ⟨0, En.in0, r1, by omega, rfl, Y1.out.2.2.2, rfl, I1.out, Rk.refl _ _ _ _, P1.out⟩
      case round =>
        obtain ⟨k, f, bs', hk, rfl, hy, hdec, hI, hK, hB⟩ := hrel
        have D2 := qh (hK.kb _ _ _ D1.out neD.symm (by decide) (by decide))
        have d1 := D2.out.cell 0
        simp only [List.getElem?_toArray, Array.setIfInBounds, List.size_toArray, List.length_cons, List.length_nil, Nat.zero_add, Nat.lt_add_one, dite_true, List.set_toArray, List.set_cons_zero, List.getElem?_cons_zero] at d1
        by_cases hlt : k < 8
        · have hk8 : (k : Int) < 8 := by omega
          rw [show 8 - k = (8 - (k + 1)) + 1 by omega] at hdec
          have e0 := (En.cells_in ⟨fr, l, f⟩ s k 0 hlt (by omega)).trans rfl
          have e1 := (En.cells_in ⟨fr, l, f⟩ s k 1 hlt (by omega)).trans rfl
          have e2 := (En.cells_in ⟨fr, l, f⟩ s k 2 hlt (by omega)).trans rfl
          have hwy := Nat.le_trans HW.out (Nat.le_trans K1.out.below.size hK.below.size)
          have ltB := hB.lt
          cases hb : mm.testBit k
          · have hnext : En.decIns mm 0 8 En.in0 r1 = En.decIns mm (k + 1) (8 - (k + 1)) f bs' := by rw [hdec]; show (if mm.testBit k = true then _ else _) = _; rw [hb]; rfl
            obtain ⟨q, hq1, hq2⟩ := En.and_no hm8 hlt hb
            have HN := qh hnext
            have HI := qh hI
            have HK := qh hK
            have HB := qh hB
            have HYY := qh hy
            clear hI hK hB hnext hdec e0 e1 e2 hy
            go_upto_region 11 with fail
            go_quiet (fail)
            go_wp2
            go_roundw
            case rel => exact ⟨k + 1, f, bs', by omega, by go_num, HYY.out, HN.out, HI.out.call (draws_below (Below.refl _ _) _) hwy, HK.out.trans ⟨draws_below (Below.refl _ _) _, (Kb.refl wr).call (draws_below (Below.refl _ _) _)⟩, HB.out.draws _⟩
            case measure => simp [intOf]; omega
          · have hnext : En.decIns mm 0 8 En.in0 r1 = (En.decIn bs').bind fun q => En.decIns mm (k + 1) (8 - (k + 1)) (En.upd f k q.1) q.2 := by rw [hdec]; show (if mm.testBit k = true then _ else _) = _; rw [hb]; rfl
            obtain ⟨q, hq1, hq2⟩ := En.and_yes hm8 hlt hb
            have HN := qh hnext
            have HI := qh hI
            have HK := qh hK
            have HB := qh hB
            have HYY := qh hy
            have E0 := qh e0
            have E1 := qh e1
            have E2 := qh e2
            clear hI hK hB hnext hdec e0 e1 e2 hy
            go_upto_region 11 with fail
            go_quiet (fail)
            have cl := fun n => qh (layinput_r _ _ _ B (2 + k * 3) 53 _ bs' b Bb Bp (wr.drewN n) HYY.out hbB hbP hwy (HI.out.call (draws_below (Below.refl _ _) n) hwy) (HB.out.draws n) E0.out E1.out E2.out (by decide) (by decide) (by decide))
            have KD := fun n => qh (show Rk b Bb B w1 (wr.drewN n) from HK.out.trans ⟨draws_below (Below.refl _ _) _, (Kb.refl wr).call (draws_below (Below.refl _ _) _)⟩)
            go_wp2_with (go_at_call 98; ((with_reducible refine ((cl _).out).mono ?_); rintro r w3 (⟨p, r3, hr, rfl, hI, hK, hB3⟩ | ⟨hn, ⟨ss, rfl⟩, hK, cs', hB3, hs⟩); (all_goals first | (have R3 := qh hr; have P3 := qh hB3; have I3 := qh hI; have K3 := qh ((KD _).out.trans hK); clear hr hI hK hB3) | (have N3 := qh hn; have F3 := qh (K1.out.trans ((KD _).out.trans hK)); have G3 := qh hB3; have S3 := qh hs; clear hn hK hB3 hs))))
            · go_roundw
              case rel => exact ⟨k + 1, En.upd f k p, r3, by omega, by go_num, (En.decIn_inv HYY.out R3.out).2.1, by rw [HN.out, R3.out, Option.bind_some], I3.out, K3.out, by have := P3.out; rw [En.cells_setin _ _ k hlt p] at this; exact this⟩
              case measure => simp [intOf]; omega
            · refine ⟨rfl, .inr ⟨?_, ⟨_, rfl⟩, F3.out, _, G3.out, S3.out⟩⟩
              rw [HDI.out, HN.out, N3.out, Option.bind_none]
        · have hk8 : ¬ (k : Int) < 8 := by omega
          obtain rfl : k = 8 := by omega
          have HN := qh hdec
          have HI := qh hI
          have HK := qh hK
          have HB := qh hB
          clear hI hK hB hdec
          go_wp2
          go_end0
          exact .inl ⟨f, bs', by rw [HDI.out, HN.out]; rfl, rfl, HI.out, K1.out.trans HK.out, HB.out⟩
end Go.Proofs.Ytgmlbimgcifenaa