/-
The document's entry out of a string: Get.
-/
import Derived.Test.YtbihnmingedgfaaEl
namespace Sx
open Go Im En
def endOf (e : E) : Option (List Int) → Option E
  | some [] => if Ok e then some e else none
  | _ => none
theorem get_end {l : List Int} {fr : Int} {acc : List Ev} {m : Nat} {f : Nat → Gm.In} {o : Option (List Int)} (h : St (dec l) (fIn fr acc m 8 f) o) : En.get l = endOf ⟨fr, acc, f⟩ o := by
  unfold En.get
  match o with
  | none =>
    have h' : dec l = none := h
    rw [h']; rfl
  | some [] =>
    have h' : dec l = some (⟨fr, acc, f⟩, []) := h
    rw [h']
    show (if [] = [] ∧ Ok _ then _ else _) = (if Ok _ then _ else _)
    by_cases hk : Ok ⟨fr, acc, f⟩
    · rw [if_pos ⟨rfl, hk⟩, if_pos hk]
    · rw [if_neg (fun h => hk h.2), if_neg hk]
  | some (x :: r) =>
    have h' : dec l = some (⟨fr, acc, f⟩, x :: r) := h
    rw [h']
    show (if x :: r = [] ∧ Ok (⟨fr, acc, f⟩ : E) then some (⟨fr, acc, f⟩ : E) else none) = none
    rw [if_neg (fun h => by cases h.1)]
end Sx
namespace En
open Go
theorem shr_bit : ∀ (m : Fin 256) (k : Fin 8), bits .and .i64 (((m.val : Nat) : Int) / 2 ^ k.val) 1 = if m.val.testBit k.val then (1 : Int) else 0 := by decide +kernel
end En
namespace Go.Proofs.Ytbihnmingedgfaa
open Go.RowKit Go.Shelf
set_option linter.unusedVariables false
set_option linter.unusedSimpArgs false

theorem in_eql (x y b : Int) (w : World) : (binOp .eql 37 (.agg #[.int .i8 x, .int .i8 y, .int .u8 b]) (.agg #[.int .i8 0, .int .i8 0, .int .u8 0])).run Try.prog w = .ok (.bool (En.zero ⟨x, y, b⟩)) w := by
  have h : (Op.equalIn 10000 37 (.agg #[.int .i8 x, .int .i8 y, .int .u8 b]) (.agg #[.int .i8 0, .int .i8 0, .int .u8 0])).run Try.prog w = .ok (En.zero ⟨x, y, b⟩) w := by
    by_cases h1 : x = 0
    · by_cases h2 : y = 0
      · by_cases h3 : b = 0
        · subst h1 h2 h3; go_simp <;> simp [En.zero]
        · have h4 : (b == 0) = false := by simpa using h3
          subst h1 h2; go_simp <;> simp [h4, h3, En.zero]
      · have h4 : (y == 0) = false := by simpa using h2
        subst h1; go_simp <;> simp [h4, h2, En.zero]
    · have h4 : (x == 0) = false := by simpa using h1
      go_simp <;> simp [h4, h1, En.zero]
  generalize #[Value.int .i8 x, .int .i8 y, .int .u8 b] = F at *
  generalize #[Value.int .i8 0, .int .i8 0, .int .u8 0] = G at *
  go_simp
theorem own_sol {w w' : World} {B base n size : Nat} {e t : TypeId} {v : Value} {xs : List Value} {cs : Array Value} (h : w.ownsRow base e size v n xs) (k : Sol B w w') (hB : Box w B t cs) (ht : e ≠ t) : w'.ownsRow base e size v n xs := by
  have hne := hB.unowned h ht
  obtain ⟨hl, h' | ⟨g, cap, cur, rfl, hbg, hg, hr⟩⟩ := h
  · exact ⟨hl, .inl h'⟩
  · have hlt : g < w.heap.size := (Array.getElem?_eq_some_iff.1 hg).1
    exact ⟨hl, .inr ⟨g, cap, cur, rfl, hbg, (k.block g hlt (fun e => hne (by rw [e]; rfl))).trans hg, hr⟩⟩

theorem own_new {w : World} {base n : Nat} {e : TypeId} {size : Nat} {v : Value} {xs : List Value} (h : w.ownsRow base e size v n xs) : v.ownBlock ≠ some w.heap.size := by
  obtain ⟨_, ⟨rfl, _⟩ | ⟨g, cap, cur, rfl, _, hg, _⟩⟩ := h
  · intro h; cases h
  · intro he
    have e' : g = w.heap.size := by injection he
    have := (Array.getElem?_eq_some_iff.1 hg).1
    omega
/-- Where the document's Get stands: its result's variable, its reader, its entry; the entry's row is not block q. -/
structure GI (w : World) (BE : Nat) (e : En.E) (o : Option (List Int)) (q : Option Nat) (W : World) : Prop where
  bytes : ∀ m, o = some m → Im.IsBytes m
  res : Box W w.heap.size 72 En.zeroC
  rd : RIs W (w.heap.size + 1) o
  ent : ∃ A c, Box W BE 72 (En.cells e (.slice A e.evs.length c)) ∧ W.ownsRow w.heap.size 83 4 (.slice A e.evs.length c) e.evs.length (En.evCells e.evs) ∧ ∀ b, q = some b → (Value.slice A e.evs.length c).ownBlock ≠ some b
  keep : Below w.heap.size w W
  lt : w.heap.size + 1 < BE
section
variable {w W W' : World} {BE : Nat} {e : En.E} {o o' : Option (List Int)} {q : Option Nat}
theorem GI.sol (h : GI w BE e o q W) (k : Sol (w.heap.size + 1) W W') (hr : RIs W' (w.heap.size + 1) o') (hB : ∀ m, o' = some m → Im.IsBytes m) : GI w BE e o' q W' := by
  obtain ⟨A, c, h1, h2, h3⟩ := h.ent
  obtain ⟨s, b, hb⟩ := h.rd.box
  exact ⟨hB, h.res.sol k (by omega), hr, ⟨A, c, h1.sol k (by have := h.lt; omega), own_sol h2 k hb (by decide), h3⟩, h.keep.trans (k.below (by omega) h.keep.size), h.lt⟩
theorem GI.call (h : GI w BE e o q W) (hb : Below W.heap.size W W') : GI w BE e o q W' := by
  obtain ⟨A, c, h1, h2, h3⟩ := h.ent
  exact ⟨h.bytes, h.res.below hb h.res.lt, h.rd.below hb h.rd.lt, ⟨A, c, h1.below hb h1.lt, own_below h2 hb (Nat.le_refl _), h3⟩, h.keep.trans (hb.mono h.keep.size), h.lt⟩
theorem GI.mark (h : GI w BE e o q W) (x : Obj) : GI w BE e o (some W.heap.size) (W.alloc x) := by
  obtain ⟨A, c, h1, h2, h3⟩ := h.ent
  have hb := one_below W x
  exact ⟨h.bytes, h.res.below hb h.res.lt, h.rd.below hb h.rd.lt, ⟨A, c, h1.below hb h1.lt, own_below h2 hb (Nat.le_refl _), fun b hb' => by injection hb' with hb'; subst hb'; exact own_new h2⟩, h.keep.trans (hb.mono h.keep.size), h.lt⟩
theorem GI.off {b : Nat} (h : GI w BE e o (some b) W) {cs : Array Value} (hQ : Box W b 83 cs) (hb : w.heap.size ≤ b) (i : Nat) (u : Value) : GI w BE e o (some b) (W.setCell ⟨b, i, none⟩ u) := by
  obtain ⟨A, c, h1, h2, h3⟩ := h.ent
  exact ⟨h.bytes, h.res.far (p := ⟨b, i, none⟩) (Box.apart h.res hQ (by decide)) u, h.rd.off (p := ⟨b, i, none⟩) hQ (by decide) u, ⟨A, c, h1.far (p := ⟨b, i, none⟩) (Box.apart h1 hQ (by decide)) u, ownsRow_setCell_other (a := ⟨b, i, none⟩) h2 (h3 b rfl) u, h3⟩, h.keep.setCell (p := ⟨b, i, none⟩) hb u, h.lt⟩
end
section
variable {w W : World} {BE : Nat} {e : En.E} {o : Option (List Int)}
theorem GI.setin (h : GI w BE e o none W) {j : Nat} (hj : j < 8) (p : Gm.In) : GI w BE { e with inp := En.upd e.inp j p } o none (((W.setCell ⟨BE, 2 + j * 3, none⟩ (.int .i8 p.x)).setCell ⟨BE, 2 + j * 3 + 1, none⟩ (.int .i8 p.y)).setCell ⟨BE, 2 + j * 3 + 2, none⟩ (.int .u8 p.b)) := by
  obtain ⟨A, c, h1, h2, _⟩ := h.ent
  have hlt := h.lt
  have b1 := h1.put (2 + j * 3) (.int .i8 p.x)
  have b2 := b1.put (2 + j * 3 + 1) (.int .i8 p.y)
  have b3 := b2.put (2 + j * 3 + 2) (.int .u8 p.b)
  have o1 := ownsRow_setCell_other (a := ⟨BE, 2 + j * 3, none⟩) h2 (h1.unowned h2 (by decide)) (.int .i8 p.x)
  have o2 := ownsRow_setCell_other (a := ⟨BE, 2 + j * 3 + 1, none⟩) o1 (b1.unowned o1 (by decide)) (.int .i8 p.y)
  have o3 := ownsRow_setCell_other (a := ⟨BE, 2 + j * 3 + 2, none⟩) o2 (b2.unowned o2 (by decide)) (.int .u8 p.b)
  rw [En.cells_setin e _ j hj p] at b3
  exact ⟨h.bytes, ((h.res.far (p := ⟨BE, _, none⟩) (by show w.heap.size ≠ BE; omega) _).far (p := ⟨BE, _, none⟩) (by show w.heap.size ≠ BE; omega) _).far (p := ⟨BE, _, none⟩) (by show w.heap.size ≠ BE; omega) _,
    ((h.rd.off (p := ⟨BE, _, none⟩) h1 (by decide) _).off (p := ⟨BE, _, none⟩) b1 (by decide) _).off (p := ⟨BE, _, none⟩) b2 (by decide) _, ⟨A, c, b3, o3, fun b h => (by cases h)⟩,
    ((h.keep.setCell (p := ⟨BE, _, none⟩) (by show w.heap.size ≤ BE; omega) _).setCell (p := ⟨BE, _, none⟩) (by show w.heap.size ≤ BE; omega) _).setCell (p := ⟨BE, _, none⟩) (by show w.heap.size ≤ BE; omega) _, hlt⟩
theorem GI.setrd {o' : Option (List Int)} (h : GI w BE e o none W) (u : Value) (hr : RIs (W.setCell ⟨w.heap.size + 1, 1, none⟩ u) (w.heap.size + 1) o') (hB : ∀ m, o' = some m → Im.IsBytes m) : GI w BE e o' none (W.setCell ⟨w.heap.size + 1, 1, none⟩ u) := by
  obtain ⟨A, c, h1, h2, _⟩ := h.ent
  obtain ⟨s, b, hb⟩ := h.rd.box
  have hlt := h.lt
  exact ⟨hB, h.res.far (p := ⟨w.heap.size + 1, 1, none⟩) (by show w.heap.size ≠ w.heap.size + 1; omega) _, hr, ⟨A, c, h1.far (p := ⟨w.heap.size + 1, 1, none⟩) (by show BE ≠ w.heap.size + 1; omega) _, ownsRow_setCell_other (a := ⟨w.heap.size + 1, 1, none⟩) h2 (hb.unowned h2 (by decide)) _, fun b h => (by cases h)⟩, h.keep.setCell (p := ⟨w.heap.size + 1, 1, none⟩) (by show w.heap.size ≤ w.heap.size + 1; omega) _, hlt⟩
end
theorem evs1_fill (k s g p : Int) : Instr.fill (fun i => some (i * 4, 4)) ((Array.range (1 * 4)).map ((Value.agg #[.int .i64 0, .int .i64 0, .int .i64 0, .int .i64 0]).cells[· % (Value.agg #[.int .i64 0, .int .i64 0, .int .i64 0, .int .i64 0]).cells.size]!)) [(0, .agg #[.int .i64 k, .int .i64 s, .int .i64 g, .int .i64 p])] = some #[.int .i64 k, .int .i64 s, .int .i64 g, .int .i64 p] := by kernel_rfl
theorem ev_parts : ∃ i, Try.prog.info? 83 = some i ∧ i.zero = some (.agg #[.int .i64 0, .int .i64 0, .int .i64 0, .int .i64 0]) ∧ i.size = 4 ∧ i.bytes = 32 := by
  have h := ev_info
  cases hq : Try.prog.info? 83 with
  | none => rw [hq] at h; cases h
  | some i =>
    rw [hq] at h
    simp only [Option.map_some, Option.some.injEq, Prod.mk.injEq] at h
    exact ⟨i, rfl, h.1, h.2.1, h.2.2⟩
theorem evs1 (k s g p : Int) (W : World) : (Instr.buildSlice 70 1 #[(0, .agg #[.int .i64 k, .int .i64 s, .int .i64 g, .int .i64 p])]).run Try.prog W = .ok (.slice (some ⟨W.heap.size, 0, none⟩) 1 1) (W.alloc (.cells #[.int .i64 k, .int .i64 s, .int .i64 g, .int .i64 p] 83)) := by
  obtain ⟨i, hq, hz, hs, _⟩ := ev_parts
  exact run_buildSlice W _ _ 1 _ _ i _ Try.underlying70 hq hz (by rw [hs]; decide) (by rw [hs]; decide) (by rw [hs]; exact evs1_fill k s g p)
theorem ev_built0 (v : Int) : Try.prog.built 83 [(0, .int .i64 v)] = some #[.int .i64 v, .int .i64 0, .int .i64 0, .int .i64 0] := by kernel_rfl

set_option maxRecDepth 100000 in
set_option maxHeartbeats 8000000 in
theorem refget_any (l : List Int) (w : World) (hB : Im.IsBytes l) :
    Calls Try.prog 46 #[.string (strOfNums l)] w fun r w' =>
      (∃ e A c, En.get l = some e ∧ r = .returned (.tuple #[.agg (En.cells e (.slice A e.evs.length c)), .int .i64 0]) ∧ Lies w' w'.heap.size 4 A e.evs.length (En.evCells e.evs) ∧ Below w.heap.size w w') ∨
      (En.get l = none ∧ r = .returned (.tuple #[.agg En.zeroC, .int .i64 2]) ∧ Below w.heap.size w w') := by
  have hBo : ∀ m, some l = some m → Im.IsBytes m := fun m hm => by injection hm with hm; subst hm; exact hB
  have ST0 : Sx.St (En.dec l) (fun r => (Im.rdn 4 r).bind fun q => (Im.rdn 1 q.2).bind fun k => Sx.fEv q.1 k.1.toNat 0 [] k.2) (some l) := by
    show En.dec l = _
    unfold En.dec Sx.fEv En.decEvents
    simp only [Option.bind_assoc, Nat.sub_zero]
  have ST1 := ST0.num (g := fun a r => (Im.rdn 1 r).bind fun k => Sx.fEv a k.1.toNat 0 [] k.2) 4 (fun r => rfl)
  have ST2 := ST1.num (g := fun a r => Sx.fEv (Sx.num 4 (some l)) a.toNat 0 [] r) 1 (fun r => rfl)
  have hB1 := Sx.rest_bytes (n := 4) hBo
  have hB2 := Sx.rest_bytes (n := 1) hB1
  have hn1 := Sx.num_lt (n := 4) hBo
  have hn2 := Sx.num_lt (n := 1) hB1
  have c1 := fun X hX => Lib.hid (rint_any 4 4 rfl (some l) (w.heap.size + 1) X (by decide) hBo hX)
  have c2 := fun X hX => Lib.hid (rint_any 1 1 rfl (Sx.rest 4 (some l)) (w.heap.size + 1) X (by decide) hB1 hX)
  generalize Sx.rest 1 (Sx.rest 4 (some l)) = o2 at *
  generalize Sx.num 1 (Sx.rest 4 (some l)) = nn at *
  generalize Sx.rest 4 (some l) = o1 at *
  generalize Sx.num 4 (some l) = fr at *
  obtain ⟨N, rfl⟩ := Int.eq_ofNat_of_zero_le hn2.1
  rw [Int.toNat_natCast] at ST2
  have HST2 := Lib.hid ST2
  have HB1 := Lib.hid hB1
  have HB2 := Lib.hid hB2
  have hN : N < 256 := by have := hn2.2; omega
  have Z0 := Lib.hid ((Box.made w 72 En.zeroC).alloc (.cells #[.string (strOfNums l), .bool false] 127))
  have R0 := Lib.hid (show RIs ((w.alloc (.cells En.zeroC 72)).alloc (.cells #[.string (strOfNums l), .bool false] 127)) (w.heap.size + 1) (some l) from Box.made_at (n := w.heap.size + 1) (w.alloc (.cells En.zeroC 72)) 127 #[.string (strOfNums l), .bool false] (by simp))
  have K0 := Lib.hid (two_below' w (.cells En.zeroC 72) (.cells #[.string (strOfNums l), .bool false] 127))
  have b7 := en_built7 fr
  generalize strOfNums l = sl at *
  clear ST0 ST1 ST2 hB1 hB2 hBo
  go_enter Try.func46, Try.ntmps46
  go_upto_region 3 with (first | (with_reducible refine alloc_en rfl rfl ?_) | (refine wpList_build_is rfl (t := 72) (vs := [(0, .int .i64 fr)]) rfl rfl b7 ?_) | (with_reducible refine en_store_new rfl rfl rfl rfl En.zeroC_size rfl ?_) | (go_at_call 85; ((with_reducible refine ((c1 _ R0.out).out).mono ?_); rintro e w1 ⟨rfl, h1, h2⟩; have R1 := Lib.hid h1; have S1 := Lib.hid h2; clear h1 h2 c1)))
  have sz1 := S1.out.size
  have s1 : w.heap.size + 1 < w1.heap.size := by simp at sz1; omega
  have G1 := Lib.hid (show GI w w1.heap.size ⟨fr, [], En.in0⟩ o1 none (w1.alloc (.cells (En.cells ⟨fr, [], En.in0⟩ (.slice none 0 0)) 72)) from
    ⟨HB1.out, (Z0.out.sol S1.out (by omega)).alloc _, R1.out.alloc _, ⟨none, 0, Box.made _ _ _, ⟨rfl, .inl ⟨rfl, rfl⟩⟩, fun b hb => (by cases hb)⟩, (K0.out.trans (S1.out.below (by omega) (by simp; omega))).alloc (by omega) _, s1⟩)
  generalize w1.alloc (.cells (En.cells ⟨fr, [], En.in0⟩ (.slice none 0 0)) 72) = W1 at *
  generalize w1.heap.size = BE at *
  clear sz1 S1 R1 Z0 R0 K0 b7 hn2
  go_wp2_with (go_at_call 85; ((with_reducible refine ((c2 _ G1.out.rd).out).mono ?_); rintro e w2 ⟨rfl, h1, h2⟩; have G2 := Lib.hid (G1.out.sol h2 h1 HB2.out); clear h1 h2 c2))
  go_loopw [7] (fun i wr => ∃ (k : Nat) (acc : List En.Ev) (o : Option (List Int)), k ≤ N ∧ i = .int .i64 k ∧ acc.length = k ∧ Sx.St (En.dec l) (Sx.fEv fr N k acc) o ∧ GI w BE ⟨fr, acc, En.in0⟩ o none wr) (fun i _ => N - (intOf i).toNat)
  case atStart => exact ⟨0, [], o2, Nat.zero_le _, rfl, rfl, HST2.out, G2.out⟩
  case round =>
    obtain ⟨k, acc, o, hk, rfl, hacc, hst, hgi⟩ := hrel
    have GG := Lib.hid hgi
    have HST := Lib.hid hst
    clear hgi hst
    go_upto_region 5 with fail
    go_cut [28] from 19 to 28 (fun b wx => b = .bool (decide (k < N ∧ o.isSome = true)) ∧ wx = wr)
    case first =>
      by_cases hlt : k < N
      · have hk8 : (k : Int) < N := by omega
        cases o with
        | none =>
          obtain ⟨s, hs⟩ := GG.out.rd
          have r1 := hs.cell 1
          go_wp2_with fail
          go_meet
          exact ⟨by simp, rfl⟩
        | some r =>
          have hs : Box wr (w.heap.size + 1) 127 #[.string (strOfNums r), .bool false] := GG.out.rd
          have r1 := hs.cell 1
          go_wp2_with fail
          go_meet
          exact ⟨by simp [hlt], rfl⟩
      · have hk8 : ¬ (k : Int) < N := by omega
        go_wp2_with fail
        go_meet
        exact ⟨by simp [hlt], rfl⟩
    case rest =>
    obtain ⟨rfl, rfl⟩ := hcut
    by_cases hgo : k < N ∧ o.isSome = true
    · rw [decide_eq_true hgo]
      obtain ⟨hlt, hso⟩ := hgo
      obtain ⟨r, rfl⟩ := Option.isSome_iff_exists.1 hso
      have hr0 := fun m (hm : some r = some m) => GG.out.bytes m hm
      have ca1 := fun X hX => Lib.hid (rint_any 1 1 rfl (some r) (w.heap.size + 1) X (by decide) hr0 hX)
      have hr1 := Sx.rest_bytes (n := 1) hr0
      have ca2 := fun X hX => Lib.hid (rint_any 1 1 rfl (Sx.rest 1 (some r)) (w.heap.size + 1) X (by decide) hr1 hX)
      have hr2 := Sx.rest_bytes (n := 1) hr1
      have ca3 := fun X hX => Lib.hid (rint_any 2 2 rfl (Sx.rest 1 (Sx.rest 1 (some r))) (w.heap.size + 1) X (by decide) hr2 hX)
      have hr3 := Sx.rest_bytes (n := 2) hr2
      have ca4 := fun X hX => Lib.hid (rint_any 1 1 rfl (Sx.rest 2 (Sx.rest 1 (Sx.rest 1 (some r)))) (w.heap.size + 1) X (by decide) hr3 hX)
      have hr4 := Sx.rest_bytes (n := 1) hr3
      have hst2 := HST.out.ev hlt
      have HST2 := Lib.hid (show Sx.St (En.dec l) (Sx.fEv fr N (k + 1) (acc ++ [⟨Sx.num 1 (some r), Sx.num 1 (Sx.rest 1 (some r)), Sx.num 2 (Sx.rest 1 (Sx.rest 1 (some r))), Sx.num 1 (Sx.rest 2 (Sx.rest 1 (Sx.rest 1 (some r))))⟩])) (Sx.rest 1 (Sx.rest 2 (Sx.rest 1 (Sx.rest 1 (some r))))) from hst2)
      generalize Sx.rest 1 (Sx.rest 2 (Sx.rest 1 (Sx.rest 1 (some r)))) = oD at *
      generalize Sx.num 1 (Sx.rest 2 (Sx.rest 1 (Sx.rest 1 (some r)))) = v4 at *
      generalize Sx.rest 2 (Sx.rest 1 (Sx.rest 1 (some r))) = oC at *
      generalize Sx.num 2 (Sx.rest 1 (Sx.rest 1 (some r))) = v3 at *
      generalize Sx.rest 1 (Sx.rest 1 (some r)) = oB at *
      generalize Sx.num 1 (Sx.rest 1 (some r)) = v2 at *
      generalize Sx.rest 1 (some r) = oA at *
      generalize Sx.num 1 (some r) = v1 at *
      have H1 := Lib.hid hr1
      have H2 := Lib.hid hr2
      have H3 := Lib.hid hr3
      have H4 := Lib.hid hr4
      clear hr0 hr1 hr2 hr3 hr4 hst2 HST hso
      go_upto_region 8 with (first | (refine wpList_build_is rfl (t := 83) (vs := [(0, .int .i64 v1)]) rfl rfl (ev_built0 v1) ?_) | (go_at_call 85; ((with_reducible refine ((ca1 _ GG.out.rd).out).mono ?_); rintro e w3 ⟨rfl, h1, h2⟩; have G3 := Lib.hid (GG.out.sol h2 h1 H1.out); clear h1 h2 ca1)))
      have GA := Lib.hid (G3.out.mark (.cells #[.int .i64 v1, .int .i64 0, .int .i64 0, .int .i64 0] 83))
      have QA := Lib.hid (Box.made w3 83 #[.int .i64 v1, .int .i64 0, .int .i64 0, .int .i64 0])
      have bq1 : w.heap.size + 1 < w3.heap.size := G3.out.rd.lt
      have bq2 : w3.heap.size ≠ w.heap.size + 1 := by omega
      generalize w3.alloc (.cells #[.int .i64 v1, .int .i64 0, .int .i64 0, .int .i64 0] 83) = W3 at *
      generalize w3.heap.size = BQ at *
      clear G3 GG
      go_upto_region 9 with (go_at_call 85; ((with_reducible refine ((ca2 _ GA.out.rd).out).mono ?_); rintro e w4 ⟨rfl, h1, h2⟩; have GX := Lib.hid (GA.out.sol h2 h1 H2.out); have QX := Lib.hid (QA.out.sol h2 bq2); have qx := QX.out.cell; have fx := QX.out.free; have lx := QX.out.lt; clear h1 h2 ca2 GA QA))
      have GB := Lib.hid (GX.out.off QX.out (by omega) 1 (.int .i64 v2))
      have QB := Lib.hid (QX.out.put 1 (.int .i64 v2))
      generalize w4.setCell ⟨BQ, 1, none⟩ (.int .i64 v2) = W4 at *
      clear qx fx lx GX QX
      go_upto_region 10 with (go_at_call 85; ((with_reducible refine ((ca3 _ GB.out.rd).out).mono ?_); rintro e w5 ⟨rfl, h1, h2⟩; have GX := Lib.hid (GB.out.sol h2 h1 H3.out); have QX := Lib.hid (QB.out.sol h2 bq2); have qx := QX.out.cell; have fx := QX.out.free; have lx := QX.out.lt; clear h1 h2 ca3 GB QB))
      have GC := Lib.hid (GX.out.off QX.out (by omega) 2 (.int .i64 v3))
      have QC := Lib.hid (QX.out.put 2 (.int .i64 v3))
      generalize w5.setCell ⟨BQ, 2, none⟩ (.int .i64 v3) = W5 at *
      clear qx fx lx GX QX
      go_upto_region 11 with (go_at_call 85; ((with_reducible refine ((ca4 _ GC.out.rd).out).mono ?_); rintro e w6 ⟨rfl, h1, h2⟩; have GX := Lib.hid (GC.out.sol h2 h1 H4.out); have QX := Lib.hid (QC.out.sol h2 bq2); have qx := QX.out.cell; have fx := QX.out.free; have lx := QX.out.lt; clear h1 h2 ca4 GC QC))
      have GD := Lib.hid (GX.out.off QX.out (by omega) 3 (.int .i64 v4))
      have QD := Lib.hid (QX.out.put 3 (.int .i64 v4))
      generalize w6.setCell ⟨BQ, 3, none⟩ (.int .i64 v4) = W6 at *
      clear qx fx lx GX QX
      have QE := Lib.hid (show Box W6 BQ 83 #[.int .i64 v1, .int .i64 v2, .int .i64 v3, .int .i64 v4] from QD.out)
      obtain ⟨A, c, hBE, hO, _⟩ := GD.out.ent
      dsimp only at hBE hO
      rw [hacc] at hBE hO
      have n1 := (hBE.cell 1).trans (En.cells_1 _ _)
      have qe := QE.out.cell
      have HBE := Lib.hid hBE
      have HOW := Lib.hid hO
      have sl1 := evs1 v1 v2 v3 v4
      obtain ⟨i0, hi0, hz0, hz1, hz2⟩ := ev_parts
      have hI := Lib.hid hi0
      have hZ := Lib.hid hz0
      have hS := Lib.hid hz1
      have hY := Lib.hid hz2
      have kB := GD.out.keep.size
      clear hBE hO hi0 hz0 hz1 hz2 QD
      go_upto_region 6 with ((with_reducible refine append_gate (t := 70) (e := 83) (size := 4) (bytes := 32) rfl rfl Try.underlying70 hI.out hZ.out hS.out hY.out rfl (by decide) ?_); refine Appends.mk (base := w.heap.size) (n := k) (xs := En.evCells acc) rfl (HOW.out.alloc _) (Lies.boxed (n := 1) (size := 4) (xs := [Value.int .i64 v1, .int .i64 v2, .int .i64 v3, .int .i64 v4]) (Box.made W6 83 #[.int .i64 v1, .int .i64 v2, .int .i64 v3, .int .i64 v4]) rfl) (by intro u hu; simp at hu; rcases hu with rfl | rfl | rfl | rfl <;> rfl) (by unfold maxLen; omega) (by omega) (by simp; omega) ?_; intro A7 c7 w7 own7 hg7; have OW7 := Lib.hid own7; have HG7 := Lib.hid hg7; have B7 := Lib.hid (grown_box HBE.out HOW.out (by decide) hg7); have b7 := B7.out.cell; have f7 := B7.out.free; have l7 := B7.out.lt; clear own7 hg7)
      have hlen : (acc ++ [(⟨v1, v2, v3, v4⟩ : En.Ev)]).length = k + 1 := by rw [List.length_append, hacc]; rfl
      have hcel : En.evCells (acc ++ [(⟨v1, v2, v3, v4⟩ : En.Ev)]) = En.evCells acc ++ [Value.int .i64 v1, .int .i64 v2, .int .i64 v3, .int .i64 v4] := by unfold En.evCells; rw [List.flatMap_append]; rfl
      have hBne : BE ≠ w.heap.size := by have := GD.out.lt; omega
      have G8 := Lib.hid (show GI w BE ⟨fr, acc ++ [⟨v1, v2, v3, v4⟩], En.in0⟩ oD none (w7.setCell ⟨BE, 1, none⟩ (.slice A7 (k + 1) c7)) from by
        obtain ⟨s, b, hb⟩ := GD.out.rd.box
        refine ⟨GD.out.bytes, (grown_box GD.out.res HOW.out (by decide) HG7.out).far (p := ⟨BE, 1, none⟩) (fun e => hBne e.symm) _, (GD.out.rd.stays ((grown_box hb HOW.out (by decide) HG7.out).is.trans hb.is.symm)).off (p := ⟨BE, 1, none⟩) B7.out (by decide) _, ⟨A7, c7, ?_, ?_, fun b h => (by cases h)⟩, (below_gone (GD.out.keep.alloc kB _) HG7.out (own_at HOW.out) (Nat.le_refl _)).setCell (p := ⟨BE, 1, none⟩) (by have := GD.out.lt; show w.heap.size ≤ BE; omega) _, GD.out.lt⟩
        · dsimp only
          rw [hlen]
          exact B7.out.put 1 (.slice A7 (k + 1) c7)
        · dsimp only
          rw [hlen, hcel]
          exact ownsRow_setCell_other (a := ⟨BE, 1, none⟩) OW7.out (B7.out.unowned OW7.out (by decide)) _)
      clear n1 qe b7 f7 l7
      go_wp2
      go_roundw
      case rel => exact ⟨k + 1, _, oD, by omega, by go_num, hlen, HST2.out, G8.out⟩
      case measure => simp [intOf]; omega
    · rw [decide_eq_false hgo]
      have hst3 : Sx.St (En.dec l) (fun r => (Im.rdn 1 r).bind fun q => Sx.fIn fr acc q.1.toNat 0 En.in0 q.2) o := by
        cases o with
        | none => exact HST.out
        | some r =>
          obtain rfl : k = N := by
            refine Classical.byContradiction fun hne => hgo ⟨by omega, rfl⟩
          exact HST.out.evs_end
      have hbo := GG.out.bytes
      have cm := fun X hX => Lib.hid (rint_any 1 1 rfl o (w.heap.size + 1) X (by decide) hbo hX)
      have hst4 := hst3.num (g := fun a r => Sx.fIn fr acc a.toNat 0 En.in0 r) 1 (fun r => rfl)
      have hb4 := Sx.rest_bytes (n := 1) hbo
      have hm := Sx.num_lt (n := 1) hbo
      generalize Sx.rest 1 o = p at *
      generalize Sx.num 1 o = mm at *
      obtain ⟨M, rfl⟩ := Int.eq_ofNat_of_zero_le hm.1
      rw [Int.toNat_natCast] at hst4
      have hM : M < 256 := by have := hm.2; omega
      have HB4 := Lib.hid hb4
      have HST4 := Lib.hid hst4
      clear hst3 hst4 hb4 hbo hm HST hgo
      go_wp2_with (go_at_call 85; ((with_reducible refine ((cm _ GG.out.rd).out).mono ?_); rintro e w3 ⟨rfl, h1, h2⟩; have G3 := Lib.hid (GG.out.sol h2 h1 HB4.out); clear h1 h2 cm))
      go_loopw [10] (fun i wr => ∃ (j : Nat) (f : Nat → Gm.In) (o : Option (List Int)), j ≤ 8 ∧ i = .int .i64 j ∧ Sx.St (En.dec l) (Sx.fIn fr acc M j f) o ∧ GI w BE ⟨fr, acc, f⟩ o none wr ∧ ∀ i, i < 8 → Gm.tyIn (f i)) (fun i _ => 8 - (intOf i).toNat)
      case atStart => exact ⟨0, En.in0, p, Nat.zero_le _, rfl, HST4.out, G3.out, En.in0_ty⟩
      case round =>
        obtain ⟨j, f, o', hj, rfl, hst, hgi, hfty⟩ := hrel
        have GJ := Lib.hid hgi
        have HSJ := Lib.hid hst
        clear hgi hst G3 HST4
        by_cases hlt : j < 8
        · have hj8 : (j : Int) < 8 := by omega
          have hsh := En.shr_bit ⟨M, hM⟩ ⟨j, hlt⟩
          dsimp only at hsh
          cases hbit : M.testBit j
          · rw [hbit] at hsh
            simp only [Bool.false_eq_true, if_false] at hsh
            have HS2 := Lib.hid (HSJ.out.skip hlt hbit)
            clear hbit
            go_wp2
            go_roundw
            case rel => exact ⟨j + 1, f, o', by omega, by go_num, HS2.out, GJ.out, hfty⟩
            case measure => simp [intOf]; omega
          · rw [hbit] at hsh
            simp only [if_true] at hsh
            have HS2 := Lib.hid (HSJ.out.input hlt hbit)
            clear hbit
            have hbo := GJ.out.bytes
            have ci := fun X hX => Lib.hid (rinput_any o' (w.heap.size + 1) X hbo hX)
            have hbr : ∀ m, Sx.inRest o' = some m → Im.IsBytes m := Sx.rest_bytes (n := 1) (Sx.rest_bytes (n := 1) (Sx.rest_bytes (n := 1) hbo))
            have hty2 := Sx.inp_ty hbo
            have haf : Sx.inAfter o' = if En.zero (Sx.inp o') then none else Sx.inRest o' := rfl
            rw [haf] at HS2
            generalize Sx.inRest o' = oR at *
            generalize Sx.inp o' = pp at *
            obtain ⟨x, y, u⟩ := pp
            dsimp only at ci
            have HBR := Lib.hid hbr
            have hieq := fun W => in_eql x y u W
            clear hbo hbr haf HSJ
            go_upto_region 18 with (go_at_call 96; ((with_reducible refine ((ci _ GJ.out.rd).out).mono ?_); rintro e w4 ⟨rfl, h1, h2⟩; have G4 := Lib.hid (GJ.out.sol h2 h1 HBR.out); obtain ⟨A4, c4, hB4, hO4, _⟩ := G4.out.ent; have b4 := (hB4.cell (2 + j * 3)).trans (En.cells_in _ _ j 0 hlt (by omega)); have b5 := (hB4.cell (2 + j * 3 + 1)).trans (En.cells_in _ _ j 1 hlt (by omega)); have b6 := (hB4.cell (2 + j * 3 + 2)).trans (En.cells_in _ _ j 2 hlt (by omega)); (simp only [Gm.In.cells, List.getElem?_cons_zero, List.getElem?_cons_succ, Nat.add_zero] at b4 b5 b6); have f4 := hB4.free; have l4 := hB4.lt; clear h1 h2 ci hB4 hO4))
            have G5 := Lib.hid (G4.out.setin hlt ⟨x, y, u⟩)
            dsimp only at G5
            generalize ((w4.setCell ⟨BE, 2 + j * 3, none⟩ (.int .i8 x)).setCell ⟨BE, 2 + j * 3 + 1, none⟩ (.int .i8 y)).setCell ⟨BE, 2 + j * 3 + 2, none⟩ (.int .u8 u) = W5 at *
            clear b4 b5 b6 f4 l4 G4 GJ
            have hfty2 : ∀ i, i < 8 → Gm.tyIn (En.upd f j ⟨x, y, u⟩ i) := fun i hi => by
              by_cases e : i = j
              · subst e; rw [En.upd_same]; exact hty2
              · rw [En.upd_other _ _ e]; exact hfty i hi
            obtain ⟨A5, c5, hB5, _, _⟩ := G5.out.ent
            have e0 := (hB5.cell (2 + j * 3)).trans (En.cells_in _ _ j 0 hlt (by omega))
            have e1 := (hB5.cell (2 + j * 3 + 1)).trans (En.cells_in _ _ j 1 hlt (by omega))
            have e2 := (hB5.cell (2 + j * 3 + 2)).trans (En.cells_in _ _ j 2 hlt (by omega))
            dsimp only at e0 e1 e2
            rw [En.upd_same] at e0 e1 e2
            simp only [Gm.In.cells, List.getElem?_cons_zero, List.getElem?_cons_succ, Nat.add_zero] at e0 e1 e2
            have l5 := hB5.lt
            clear hB5
            cases oR with
            | none =>
              obtain ⟨s, hs⟩ := G5.out.rd
              have r1 := hs.cell 1
              have r2 := hs.free 1
              have G6 := Lib.hid (G5.out.setrd (.bool true) G5.out.rd.bad (fun m hm => (by cases hm)))
              have HS3 := Lib.hid (show Sx.St (En.dec l) (Sx.fIn fr acc M (j + 1) (En.upd f j ⟨x, y, u⟩)) none from by have := HS2.out; split at this <;> exact this)
              clear hs HS2
              go_wp2
              go_roundw
              case rel => exact ⟨j + 1, _, none, by omega, by go_num, HS3.out, G6.out, hfty2⟩
              case measure => simp [intOf]; omega
            | some r' =>
              have hs : Box W5 (w.heap.size + 1) 127 #[.string (strOfNums r'), .bool false] := G5.out.rd
              have r1 := hs.cell 1
              have r2 := hs.free 1
              cases hz : En.zero ⟨x, y, u⟩
              · rw [hz] at hieq HS2
                have G6 := Lib.hid (G5.out.setrd (.bool false) (show RIs _ _ (some r') from hs.put 1 (.bool false)) G5.out.bytes)
                clear hs hz
                go_wp2
                go_roundw
                case rel => exact ⟨j + 1, _, some r', by omega, by go_num, HS2.out, G6.out, hfty2⟩
                case measure => simp [intOf]; omega
              · rw [hz] at hieq HS2
                have G6 := Lib.hid (G5.out.setrd (.bool true) G5.out.rd.bad (fun m hm => (by cases hm)))
                clear hs hz
                go_wp2
                go_roundw
                case rel => exact ⟨j + 1, _, none, by omega, by go_num, HS2.out, G6.out, hfty2⟩
                case measure => simp [intOf]; omega
        · have hj8 : ¬ (j : Int) < 8 := by omega
          obtain rfl : j = 8 := by omega
          have hget := Sx.get_end HSJ.out
          have hbo := GJ.out.bytes
          have ce := fun X hX => Lib.hid (rend_any o' (w.heap.size + 1) X hbo hX)
          obtain ⟨A, c, hBE, hO, _⟩ := GJ.out.ent
          dsimp only at hBE hO
          have BB := Lib.hid hBE
          have OO := Lib.hid hO
          have ZZ := Lib.hid GJ.out.res
          have KK := Lib.hid GJ.out.keep
          have RR := Lib.hid GJ.out.rd
          have h63 : acc.length ≤ maxLen := by rw [hacc]; unfold maxLen; omega
          clear hacc
          have cmy := fun X hX => Lib.hid (refmayen_any ⟨fr, acc, f⟩ A acc.length c X rfl h63 hfty hX)
          have hL0 := Lib.hid (Lies.owned hO)
          clear HSJ hBE hO hbo GJ
          by_cases hend : Sx.ended o' = true
          · rw [hend] at ce
            have ho : o' = some [] := by
              unfold Sx.ended at hend
              split at hend
              · rfl
              · cases hend
            subst ho
            by_cases hok : En.Ok ⟨fr, acc, f⟩
            · rw [decide_eq_true hok] at cmy
              have HG := Lib.hid (show En.get l = some ⟨fr, acc, f⟩ from by rw [hget]; show (if En.Ok ⟨fr, acc, f⟩ then _ else _) = _; rw [if_pos hok])
              clear hget hok hend
              go_wp2_with (first | ((with_reducible refine en_load_g ?_ rfl ?_); (focus first | rfl | kernel_rfl | simp [Region.wanted, yielded]); apply LoadEn.mk rfl; (focus (with_reducible exact BB.out)); dsimp only) | ((with_reducible refine en_load rfl rfl ?_); apply LoadEn.mk rfl; (focus (with_reducible exact B2.out)); dsimp only) | ((with_reducible refine blk_gate (t := 72) (size := 26) rfl rfl en_info ?_); refine StoreBlk.mk (B := w.heap.size) rfl rfl Z2.out (En.cells_one _ _ rfl) (En.cells_size _ _) En.zeroC_size ?_) | (go_at_call 88; ((with_reducible refine ((ce _ RR.out).out).mono ?_); rintro e w4 ⟨rfl, rfl⟩)) | (go_at_call 41; ((with_reducible refine ((cmy _ hL0.out).out).mono ?_); rintro e w5 ⟨rfl, hb⟩; have B2 := Lib.hid (BB.out.below hb BB.out.lt); have Z2 := Lib.hid (ZZ.out.below hb ZZ.out.lt); have O2 := Lib.hid (own_below OO.out hb (Nat.le_refl _)); have K2 := Lib.hid (KK.out.trans (hb.mono KK.out.size)); clear hb)))
              exact bodyPost_ret (results_cell_tmp rfl _ _ w.heap.size 72 _ _ rfl (Z2.out.row (En.cells ⟨fr, acc, f⟩ (.slice A acc.length c))) Try.underlying72 rfl en_info) rfl (.inl ⟨⟨fr, acc, f⟩, A, c, HG.out, rfl, Lies.owned (own_setRow O2.out (Z2.out.unowned O2.out (by decide)) _), Below.setRow' K2.out (Nat.le_refl _) _⟩)
            · rw [decide_eq_false hok] at cmy
              have HG := Lib.hid (show En.get l = none from by rw [hget]; show (if En.Ok ⟨fr, acc, f⟩ then _ else _) = _; rw [if_neg hok])
              clear hget hok hend
              go_wp2_with (first | ((with_reducible refine en_load_g ?_ rfl ?_); (focus first | rfl | kernel_rfl | simp [Region.wanted, yielded]); apply LoadEn.mk rfl; (focus (with_reducible exact BB.out)); dsimp only) | (refine wpList_build_is rfl (t := 72) (vs := []) rfl rfl en_built ?_) | ((with_reducible refine blk_gate (t := 72) (size := 26) rfl rfl en_info ?_); refine StoreBlk.mk (B := w.heap.size) rfl rfl Z2.out en_zero_one En.zeroC_size En.zeroC_size ?_) | (go_at_call 88; ((with_reducible refine ((ce _ RR.out).out).mono ?_); rintro e w4 ⟨rfl, rfl⟩)) | (go_at_call 41; ((with_reducible refine ((cmy _ hL0.out).out).mono ?_); rintro e w5 ⟨rfl, hb⟩; have Z2 := Lib.hid (ZZ.out.below hb ZZ.out.lt); have K2 := Lib.hid (KK.out.trans (hb.mono KK.out.size)); clear hb)))
              exact bodyPost_ret (results_cell_tmp rfl _ _ w.heap.size 72 _ _ rfl (Z2.out.row En.zeroC) Try.underlying72 rfl (by rw [En.zeroC_size]; exact en_info)) rfl (.inr ⟨HG.out, rfl, Below.setRow' K2.out (Nat.le_refl _) _⟩)
          · have hef : Sx.ended o' = false := by simpa using hend
            rw [hef] at ce
            have HG := Lib.hid (show En.get l = none from by
              rw [hget]
              match o', hef with
              | none, _ => rfl
              | some (x :: r), _ => rfl
              | some [], h => cases h)
            clear hget hend hef
            go_wp2_with (first | (refine wpList_build_is rfl (t := 72) (vs := []) rfl rfl en_built ?_) | ((with_reducible refine blk_gate (t := 72) (size := 26) rfl rfl en_info ?_); refine StoreBlk.mk (B := w.heap.size) rfl rfl ZZ.out en_zero_one En.zeroC_size En.zeroC_size ?_) | (go_at_call 88; ((with_reducible refine ((ce _ RR.out).out).mono ?_); rintro e w4 ⟨rfl, rfl⟩)))
            exact bodyPost_ret (results_cell_tmp rfl _ _ w.heap.size 72 _ _ rfl (ZZ.out.row En.zeroC) Try.underlying72 rfl (by rw [En.zeroC_size]; exact en_info)) rfl (.inr ⟨HG.out, rfl, Below.setRow' KK.out (Nat.le_refl _) _⟩)
end Go.Proofs.Ytbihnmingedgfaa
