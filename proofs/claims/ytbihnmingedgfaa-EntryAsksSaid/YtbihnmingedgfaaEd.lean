/-
Entries out of bytes, plainly.
-/
import Derived.Test.YtbihnmingedgfaaEn
namespace En
open Go Im
theorem eqs_len {a b c d : List Int} (h : a ++ b = c ++ d) (hl : a.length = c.length) : a = c ∧ b = d := List.append_inj h hl
def decEv (bs : List Int) : Option (Ev × List Int) :=
  (rdn 1 bs).bind fun k => (rdn 1 k.2).bind fun s => (rdn 2 s.2).bind fun g => (rdn 1 g.2).bind fun p => some (⟨k.1, s.1, g.1, p.1⟩, p.2)
/-- n events, behind those that were read already. -/
def decEvs : Nat → List Ev → List Int → Option (List Ev × List Int)
  | 0, l, bs => some (l, bs)
  | n + 1, l, bs => (decEv bs).bind fun q => decEvs n (l ++ [q.1]) q.2
def decEvents (bs : List Int) : Option (List Ev × List Int) := (rdn 1 bs).bind fun n => decEvs n.1.toNat [] n.2
def decIn (bs : List Int) : Option (Gm.In × List Int) :=
  (rdn 1 bs).bind fun x => (rdn 1 x.2).bind fun y => (rdn 1 y.2).bind fun b => if zero ⟨IntKind.i8.wrap x.1, IntKind.i8.wrap y.1, b.1⟩ then none else some (⟨IntKind.i8.wrap x.1, IntKind.i8.wrap y.1, b.1⟩, b.2)
/-- The inputs of n slots from k on, of those that m tells. -/
def decIns (m : Nat) : Nat → Nat → (Nat → Gm.In) → List Int → Option ((Nat → Gm.In) × List Int)
  | _, 0, f, bs => some (f, bs)
  | k, n + 1, f, bs => if m.testBit k then (decIn bs).bind fun q => decIns m (k + 1) n (upd f k q.1) q.2 else decIns m (k + 1) n f bs
def in0 : Nat → Gm.In := fun _ => ⟨0, 0, 0⟩
def decInputs (f : Nat → Gm.In) (bs : List Int) : Option ((Nat → Gm.In) × List Int) := (rdn 1 bs).bind fun m => decIns m.1.toNat 0 8 f m.2
def dec (bs : List Int) : Option (E × List Int) :=
  (rdn 4 bs).bind fun a => (decEvents a.2).bind fun l => (decInputs in0 l.2).bind fun f => some (⟨a.1, l.1, f.1⟩, f.2)
def get (bs : List Int) : Option E := (dec bs).bind fun q => if q.2 = [] ∧ Ok q.1 then some q.1 else none

/-! What is put is read. -/
theorem mod1 {x : Int} (h : 0 ≤ x ∧ x < 256) : x % 2 ^ (8 * 1) = x := by omega
theorem decEv_put {v : Ev} (h : evOk v) (rest : List Int) : decEv (evBytes v ++ rest) = some (v, rest) := by
  obtain ⟨h1, h2, h3, h4⟩ := h
  unfold decEv evBytes
  rw [List.append_assoc, rdn_bytes, Option.bind_some, List.append_assoc, rdn_bytes, Option.bind_some, List.append_assoc, rdn_bytes, Option.bind_some, rdn_bytes, Option.bind_some]
  dsimp only
  rw [mod1 (by omega), mod1 (by omega), mod1 (by omega), show v.gen % 2 ^ (8 * 2) = v.gen by omega]
theorem decEvs_put : ∀ (l : List Ev) (a : List Ev) (rest : List Int), (∀ v ∈ l, evOk v) → decEvs l.length a (evsBytes l ++ rest) = some (a ++ l, rest)
  | [], a, rest, _ => by simp [decEvs, evsBytes]
  | v :: l, a, rest, h => by
    have e : evsBytes (v :: l) ++ rest = evBytes v ++ (evsBytes l ++ rest) := by simp [evsBytes]
    rw [e]
    show (decEv (evBytes v ++ (evsBytes l ++ rest))).bind _ = _
    rw [decEv_put (h v (by simp)), Option.bind_some, decEvs_put l (a ++ [v]) rest fun u hu => h u (by simp [hu])]
    simp
theorem decIn_put {p : Gm.In} (h : Gm.tyIn p) (hz : zero p = false) (rest : List Int) : decIn (inBytes p ++ rest) = some (p, rest) := by
  obtain ⟨h1, h2, h3⟩ := h
  unfold decIn inBytes
  rw [List.append_assoc, rdn_bytes, Option.bind_some, List.append_assoc, rdn_bytes, Option.bind_some, rdn_bytes, Option.bind_some]
  dsimp only
  have e1 : IntKind.i8.wrap (p.x % 2 ^ (8 * 1)) = p.x := by rw [Im.wrap_i8]; omega
  have e2 : IntKind.i8.wrap (p.y % 2 ^ (8 * 1)) = p.y := by rw [Im.wrap_i8]; omega
  rw [e1, e2, mod1 (by omega), hz]
  rfl
theorem zero_is {p : Gm.In} (h : zero p = true) : p = ⟨0, 0, 0⟩ := by
  unfold zero at h
  have := of_decide_eq_true h
  obtain ⟨x, y, b⟩ := p
  dsimp only at this
  obtain ⟨rfl, rfl, rfl⟩ := this
  rfl
def insFrom (f : Nat → Gm.In) : Nat → Nat → List Int
  | _, 0 => []
  | k, n + 1 => (if zero (f k) then [] else inBytes (f k)) ++ insFrom f (k + 1) n
theorem ins_from (f : Nat → Gm.In) : ∀ (n k : Nat), insBytes f k ++ insFrom f k n = insBytes f (k + n)
  | 0, k => by simp [insFrom]
  | n + 1, k => by
    show insBytes f k ++ ((if zero (f k) then [] else inBytes (f k)) ++ insFrom f (k + 1) n) = _
    rw [← List.append_assoc]
    have := ins_from f n (k + 1)
    rw [show k + 1 + n = k + (n + 1) by omega] at this
    exact this
theorem insFrom_congr {f g : Nat → Gm.In} : ∀ (n k : Nat), (∀ i, k ≤ i → i < k + n → f i = g i) → insFrom f k n = insFrom g k n
  | 0, _, _ => rfl
  | n + 1, k, h => by unfold insFrom; rw [h k (by omega) (by omega), insFrom_congr n (k + 1) fun i h1 h2 => h i (by omega) (by omega)]
theorem decIns_put (m : Nat) (f : Nat → Gm.In) : ∀ (n k : Nat) (g : Nat → Gm.In) (rest : List Int), (∀ i, k ≤ i → i < k + n → m.testBit i = !zero (f i)) → (∀ i, k ≤ i → i < k + n → Gm.tyIn (f i) ∧ g i = ⟨0, 0, 0⟩) →
    ∃ f', decIns m k n g (insFrom f k n ++ rest) = some (f', rest) ∧ (∀ i, k ≤ i → i < k + n → f' i = f i) ∧ (∀ i, i < k ∨ k + n ≤ i → f' i = g i)
  | 0, k, g, rest, _, _ => ⟨g, rfl, fun i _ _ => by omega, fun _ _ => rfl⟩
  | n + 1, k, g, rest, hm, ht => by
    have hk := hm k (by omega) (by omega)
    unfold decIns insFrom
    cases hz : zero (f k)
    · rw [hz] at hk
      rw [hk]
      simp only [Bool.not_false, if_true, Bool.false_eq_true, if_false, List.append_assoc]
      rw [decIn_put (ht k (by omega) (by omega)).1 hz, Option.bind_some]
      obtain ⟨f', h1, h2, h3⟩ := decIns_put m f n (k + 1) (upd g k (f k)) rest (fun i a b => hm i (by omega) (by omega)) fun i a b => ⟨(ht i (by omega) (by omega)).1, by rw [upd_other _ _ (by omega)]; exact (ht i (by omega) (by omega)).2⟩
      refine ⟨f', h1, fun i a b => ?_, fun i a => ?_⟩
      · by_cases e : i = k
        · subst e; rw [h3 i (by omega), upd_same]
        · exact h2 i (by omega) (by omega)
      · rw [h3 i (by omega), upd_other _ _ (by omega)]
    · rw [hz] at hk
      rw [hk]
      simp only [Bool.not_true, Bool.false_eq_true, if_false, if_true, List.nil_append]
      obtain ⟨f', h1, h2, h3⟩ := decIns_put m f n (k + 1) g rest (fun i a b => hm i (by omega) (by omega)) fun i a b => ht i (by omega) (by omega)
      refine ⟨f', h1, fun i a b => ?_, fun i a => h3 i (by omega)⟩
      by_cases e : i = k
      · subst e; rw [h3 i (by omega), (ht i (by omega) (by omega)).2, zero_is hz]
      · exact h2 i (by omega) (by omega)
theorem dec_put {e : E} (h : Ok e) (ht : Ty e) (rest : List Int) : ∃ e', dec (put e ++ rest) = some (e', rest) ∧ Like e e' := by
  have hm := mask_lt e.inp 8
  have hc := h.count
  have e8 := ins_from e.inp 8 0
  rw [show 0 + 8 = 8 from rfl] at e8
  obtain ⟨f', h1, h2, _⟩ := decIns_put (mask e.inp 8) e.inp 8 0 in0 rest (fun i _ hi => mask_bit e.inp 8 i (by omega)) fun i _ hi => ⟨ht.ins i (by omega), rfl⟩
  have hfr := h.frame
  refine ⟨⟨e.frame, e.evs, f'⟩, ?_, rfl, rfl, fun i hi => (h2 i (Nat.zero_le _) (by omega)).symm⟩
  unfold dec put decEvents decInputs
  rw [← e8]
  simp only [List.append_assoc, rdn_bytes, Option.bind_some]
  rw [show (e.evs.length : Int) % 2 ^ (8 * 1) = e.evs.length by omega, Int.toNat_natCast, decEvs_put _ _ _ (row_mem _ _ h.row)]
  simp only [Option.bind_some, rdn_bytes]
  rw [show ((mask e.inp 8 : Nat) : Int) % 2 ^ (8 * 1) = (mask e.inp 8 : Nat) by omega, Int.toNat_natCast]
  have e0 : insBytes e.inp 0 = [] := rfl
  rw [e0, List.nil_append, h1]
  simp only [Option.bind_some, List.nil_append]
  rw [show e.frame % 2 ^ (8 * 4) = e.frame by omega]

/-! What is read was put. -/
theorem decEv_inv {bs rest : List Int} {v : Ev} (hB : IsBytes bs) (h : decEv bs = some (v, rest)) : bs = evBytes v ++ rest ∧ IsBytes rest ∧ tyEv v := by
  unfold decEv at h
  obtain ⟨⟨k, b1⟩, h1, h⟩ := Option.bind_eq_some_iff.1 h
  obtain ⟨⟨s, b2⟩, h2, h⟩ := Option.bind_eq_some_iff.1 h
  obtain ⟨⟨g, b3⟩, h3, h⟩ := Option.bind_eq_some_iff.1 h
  obtain ⟨⟨p, b4⟩, h4, h⟩ := Option.bind_eq_some_iff.1 h
  injection h with h
  injection h with e1 e2
  subst e1 e2
  obtain ⟨rfl, x1, y1, B1⟩ := rdn_inv hB h1
  obtain ⟨rfl, x2, y2, B2⟩ := rdn_inv B1 h2
  obtain ⟨rfl, x3, y3, B3⟩ := rdn_inv B2 h3
  obtain ⟨rfl, x4, y4, B4⟩ := rdn_inv B3 h4
  refine ⟨?_, B4, ?_⟩
  · unfold evBytes
    simp only [List.append_assoc]
  · unfold tyEv i64
    (try dsimp only at *)
    omega
theorem decEvs_inv : ∀ (n : Nat) (a l : List Ev) (bs rest : List Int), IsBytes bs → decEvs n a bs = some (l, rest) → ∃ l', l = a ++ l' ∧ l'.length = n ∧ bs = evsBytes l' ++ rest ∧ IsBytes rest ∧ ∀ v ∈ l', tyEv v
  | 0, a, l, bs, rest, hB, h => by
    unfold decEvs at h
    injection h with h
    injection h with e1 e2
    subst e1 e2
    exact ⟨[], by simp, rfl, rfl, hB, fun _ h => by cases h⟩
  | n + 1, a, l, bs, rest, hB, h => by
    unfold decEvs at h
    obtain ⟨⟨v, b1⟩, h1, hq⟩ := Option.bind_eq_some_iff.1 h
    clear h
    obtain ⟨rfl, B1, t1⟩ := decEv_inv hB h1
    obtain ⟨l', rfl, h2, h3, B2, t2⟩ := decEvs_inv n _ l _ rest B1 hq
    subst h3
    refine ⟨v :: l', by simp, by simp [h2], by simp [evsBytes], B2, fun u hu => ?_⟩
    rcases List.mem_cons.1 hu with rfl | hu
    · exact t1
    · exact t2 u hu
theorem decIn_inv {bs rest : List Int} {p : Gm.In} (hB : IsBytes bs) (h : decIn bs = some (p, rest)) : bs = inBytes p ++ rest ∧ IsBytes rest ∧ Gm.tyIn p ∧ zero p = false := by
  unfold decIn at h
  obtain ⟨⟨x, b1⟩, h1, h⟩ := Option.bind_eq_some_iff.1 h
  obtain ⟨⟨y, b2⟩, h2, h⟩ := Option.bind_eq_some_iff.1 h
  obtain ⟨⟨b, b3⟩, h3, h⟩ := Option.bind_eq_some_iff.1 h
  dsimp only at h
  split at h
  · cases h
  · rename_i hz
    injection h with h
    injection h with e1 e2
    subst e1 e2
    obtain ⟨rfl, x1, y1, B1⟩ := rdn_inv hB h1
    obtain ⟨rfl, x2, y2, B2⟩ := rdn_inv B1 h2
    obtain ⟨rfl, x3, y3, B3⟩ := rdn_inv B2 h3
    refine ⟨?_, B3, ?_, by simpa using hz⟩
    · have e : ∀ z : Int, bytesOf 1 (IntKind.i8.wrap z) = bytesOf 1 z := fun z => by
        unfold bytesOf bytesOf
        rw [Im.wrap_i8]
        simp only [Nat.mul_zero, List.nil_append, List.cons.injEq, and_true]
        omega
      unfold inBytes
      simp only [List.append_assoc, e]
    · unfold Gm.tyIn
      (try dsimp only at *)
      rw [Im.wrap_i8, Im.wrap_i8]
      omega
theorem decIns_inv (m : Nat) : ∀ (n k : Nat) (g f : Nat → Gm.In) (bs rest : List Int), IsBytes bs → (∀ i, k ≤ i → i < k + n → g i = ⟨0, 0, 0⟩) → decIns m k n g bs = some (f, rest) →
    bs = insFrom f k n ++ rest ∧ IsBytes rest ∧ (∀ i, k ≤ i → i < k + n → (!zero (f i)) = m.testBit i ∧ Gm.tyIn (f i)) ∧ ∀ i, i < k ∨ k + n ≤ i → f i = g i
  | 0, k, g, f, bs, rest, hB, hg, h => by
    unfold decIns at h
    injection h with h
    injection h with e1 e2
    subst e1 e2
    exact ⟨rfl, hB, fun i _ _ => by omega, fun _ _ => rfl⟩
  | n + 1, k, g, f, bs, rest, hB, hg, h => by
    unfold decIns at h
    cases hb : m.testBit k
    · rw [hb] at h
      simp only [Bool.false_eq_true, if_false] at h
      obtain ⟨h1, B1, h2, h3⟩ := decIns_inv m n (k + 1) g f bs rest hB (fun i a b => hg i (by omega) (by omega)) h
      have hk : f k = ⟨0, 0, 0⟩ := (h3 k (by omega)).trans (hg k (by omega) (by omega))
      refine ⟨?_, B1, fun i a b => ?_, fun i a => h3 i (by omega)⟩
      · rw [h1]
        conv => rhs; unfold insFrom
        rw [hk]
        rfl
      · by_cases e : i = k
        · subst e
          rw [hk, hb]
          exact ⟨rfl, by unfold Gm.tyIn; dsimp only; omega⟩
        · exact h2 i (by omega) (by omega)
    · rw [hb] at h
      simp only [if_true] at h
      obtain ⟨⟨p, b1⟩, h1, hq⟩ := Option.bind_eq_some_iff.1 h
      clear h
      obtain ⟨rfl, B1, t1, z1⟩ := decIn_inv hB h1
      obtain ⟨h2, B2, h3, h4⟩ := decIns_inv m n (k + 1) (upd g k p) f b1 rest B1 (fun i a b => by rw [upd_other _ _ (by omega)]; exact hg i (by omega) (by omega)) hq
      have hk : f k = p := (h4 k (by omega)).trans (upd_same _ _ _)
      refine ⟨?_, B2, fun i a b => ?_, fun i a => ?_⟩
      · rw [h2]
        conv => rhs; unfold insFrom
        rw [hk, z1]
        simp
      · by_cases e : i = k
        · subst e
          rw [hk, hb, z1]
          exact ⟨rfl, t1⟩
        · exact h3 i (by omega) (by omega)
      · rw [h4 i (by omega), upd_other _ _ (by omega)]
theorem dec_inv {bs rest : List Int} {e : E} (hB : IsBytes bs) (h : dec bs = some (e, rest)) : bs = put e ++ rest ∧ Ty e := by
  unfold dec decEvents decInputs at h
  obtain ⟨⟨f, b1⟩, h1, ha⟩ := Option.bind_eq_some_iff.1 h
  clear h
  obtain ⟨⟨l, b2⟩, h2, hb⟩ := Option.bind_eq_some_iff.1 ha
  clear ha
  obtain ⟨⟨n, b3⟩, h3, hc⟩ := Option.bind_eq_some_iff.1 h2
  clear h2
  obtain ⟨⟨g, b4⟩, h4, hd⟩ := Option.bind_eq_some_iff.1 hb
  clear hb
  obtain ⟨⟨m, b5⟩, h5, he⟩ := Option.bind_eq_some_iff.1 h4
  clear h4
  injection hd with hd
  injection hd with e1 e2
  subst e1 e2
  dsimp only at h3 hc h5 he ⊢
  obtain ⟨rfl, x1, y1, B1⟩ := rdn_inv hB h1
  obtain ⟨rfl, x2, y2, B2⟩ := rdn_inv B1 h3
  obtain ⟨l', hl0, hl, rfl, B3, t3⟩ := decEvs_inv _ _ _ _ _ B2 hc
  rw [List.nil_append] at hl0
  subst hl0
  obtain ⟨rfl, x4, y4, B4⟩ := rdn_inv B3 h5
  obtain ⟨rfl, B5, h6, _⟩ := decIns_inv _ _ _ _ _ _ _ B4 (fun i _ _ => rfl) he
  have hm := mask_of g m.toNat 8 fun k hk => (h6 k (Nat.zero_le _) (by omega)).1
  have e8 := ins_from g 8 0
  rw [show 0 + 8 = 8 from rfl, show insBytes g 0 = [] from rfl, List.nil_append] at e8
  rw [Nat.mod_eq_of_lt (by omega)] at hm
  refine ⟨?_, ⟨?_, t3, fun i hi => (h6 i (Nat.zero_le _) (by omega)).2⟩⟩
  · unfold put
    dsimp only
    rw [hm, ← e8, hl, Int.toNat_of_nonneg x2, Int.toNat_of_nonneg x4]
    simp only [List.append_assoc]
  · unfold i64; dsimp only; omega

/-! Get. -/
theorem get_put {e : E} (h : Ok e) (ht : Ty e) : ∃ e', get (put e) = some e' ∧ Like e e' := by
  obtain ⟨e', h1, h2⟩ := dec_put h ht []
  rw [List.append_nil] at h1
  refine ⟨e', ?_, h2⟩
  unfold get
  rw [h1, Option.bind_some, if_pos ⟨rfl, h.like h2⟩]
theorem get_some {bs : List Int} {e : E} (hB : IsBytes bs) (h : get bs = some e) : Ok e ∧ Ty e ∧ put e = bs := by
  unfold get at h
  obtain ⟨⟨e', r⟩, h1, h⟩ := Option.bind_eq_some_iff.1 h
  split at h
  · rename_i hq
    injection h with h
    subst h
    obtain ⟨h2, h3⟩ := dec_inv hB h1
    dsimp only at hq h2 h3 ⊢
    rw [hq.1, List.append_nil] at h2
    exact ⟨hq.2, h3, h2.symm⟩
  · cases h
theorem get_app {e : E} (h : Ok e) (ht : Ty e) {rest : List Int} (hr : rest ≠ []) : get (put e ++ rest) = none := by
  obtain ⟨e', h1, h2⟩ := dec_put h ht rest
  unfold get
  rw [h1, Option.bind_some, if_neg (fun q => hr q.1)]
theorem get_cut {e : E} (h : Ok e) (ht : Ty e) {k : Nat} (hk : k < (put e).length) : get ((put e).take k) = none := by
  cases hg : get ((put e).take k) with
  | none => rfl
  | some o =>
    obtain ⟨h1, h2, h3⟩ := get_some ((put_bytes e).take k) hg
    have h4 := get_app h1 h2 (rest := (put e).drop k) (fun q => by have := congrArg List.length q; simp at this; omega)
    rw [h3, List.take_append_drop] at h4
    obtain ⟨e', h5, _⟩ := get_put h ht
    rw [h4] at h5
    cases h5
theorem events_left {bs rest : List Int} {l : List Ev} (hB : IsBytes bs) (h : decEvents bs = some (l, rest)) : IsBytes rest := by
  unfold decEvents at h
  obtain ⟨⟨n, b1⟩, h1, h2⟩ := Option.bind_eq_some_iff.1 h
  obtain ⟨_, _, _, _, h3, _⟩ := decEvs_inv _ _ _ _ _ (rdn_inv hB h1).2.2.2 h2
  exact h3
/-- No more than 255 events are read. -/
theorem dec_few {bs rest : List Int} {e : E} (hB : IsBytes bs) (h : dec bs = some (e, rest)) : e.evs.length ≤ 255 := by
  unfold dec decEvents at h
  obtain ⟨⟨f, b1⟩, h1, ha⟩ := Option.bind_eq_some_iff.1 h
  obtain ⟨⟨l, b2⟩, h2, hb⟩ := Option.bind_eq_some_iff.1 ha
  obtain ⟨⟨n, b3⟩, h3, hc⟩ := Option.bind_eq_some_iff.1 h2
  obtain ⟨⟨g, b4⟩, h4, hd⟩ := Option.bind_eq_some_iff.1 hb
  injection hd with hd
  injection hd with e1 e2
  subst e1 e2
  obtain ⟨_, x1, y1, B1⟩ := rdn_inv hB h1
  obtain ⟨_, x2, y2, B2⟩ := rdn_inv B1 h3
  obtain ⟨l', hl0, hl, _⟩ := decEvs_inv _ _ _ _ _ B2 hc
  dsimp only at hl hl0 x2 y2 ⊢
  rw [List.nil_append] at hl0
  subst hl0
  omega
end En
