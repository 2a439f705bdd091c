/-
Several texts in one: Rgl Gh Gj Gjt Rgi Qg.
-/
import Derived.Test.YtbdlpbnfcnhajaaGreatRq9
set_option maxRecDepth 100000
set_option maxHeartbeats 8000000
set_option linter.unusedVariables false
set_option linter.unusedSimpArgs false
namespace Go.Proofs.YtbdlpbnfcnhajaaGreat
open Go.RowKit
theorem qjj (B : Nat) (L : List Rg.St) (q : Rg.St) (hM : Rg.Ok (L.map Rg.St.s)) (hty : Gm.ty q.g) (hnm : q.g.qaa.length <= maxLen) (X : World) (h : qa1 B L X) (hq : Lies X X.heap.size 6 q.A q.g.qaa.length (Gm.qab q.g.qaa)) :
 Calls Tryz.prog 13 #[.pointer (some ⟨B, 0, none⟩), .agg q.arr] X fun e X' => (Rg.pushB (L.map Rg.St.s) q.s = true /\ e = .returned (.bool true) /\ qa1 B (L ++ [q]) X' /\ Only B X X' /\ qbW (fun k => X.heap.size <= k) B X') \/ (Rg.pushB (L.map Rg.St.s) q.s = false /\ e = .returned (.bool false) /\ Below X.heap.size X X') := by
 have hlen : L.length ≠ 0 := by
  have := Rg.qeu hM.some
  rw [List.length_map] at this
  omega
 have h9 : L.length <= 9 := by have := hM.few; rwa [List.length_map] at this
 have hlt : L.length - 1 < L.length := by omega
 have hl : L[L.length - 1]? = some L[L.length - 1] := List.getElem?_eq_getElem hlt
 have hfr : (L[L.length - 1]).g.frame = Rg.last (L.map Rg.St.s) := by
  have : (L[L.length - 1]).g.frame = Rg.first (L.map Rg.St.s) + ((L.length - 1 : Nat) : Int) := hM.runs _ _ (Rg.qcY hl)
  rw [this]
  unfold Rg.last
  rw [List.length_map]
  omega
 have hlo : 0 <= (L[L.length - 1]).g.frame /\ (L[L.length - 1]).g.frame <= 1048576 := by
  have := hM.low
  rw [hfr]
  omega
 generalize L[L.length - 1] = l at hl hfr hlo
 by_cases hok : Im.Ok q.g q.r
 · by_cases hf : q.g.frame = l.g.frame + 1
   · by_cases h8 : L.length <= 8
     · have hp : Rg.pushB (L.map Rg.St.s) q.s = true := Rg.qgC hok (by rw [<- hfr]; exact hf) (by rw [List.length_map]; exact h8)
       exact (qjg B L q l hl hlen (by omega) hlo hty hnm hok hf h8 X h hq).mono fun e X' hh => .inl ⟨hp, hh⟩
     · have hp : Rg.pushB (L.map Rg.St.s) q.s = false := Rg.qeK fun hh => by have := hh.2.2; rw [List.length_map] at this; omega
       exact (qil B L q l hl hlen (by omega) hlo hty hnm hok hf (by omega) X h hq).mono fun e X' hh => .inr ⟨hp, hh⟩
   · have hp : Rg.pushB (L.map Rg.St.s) q.s = false := Rg.qeK fun hh => hf (by rw [hfr]; exact hh.2.1)
     exact (qji B L q l hl hlen (by omega) hlo hty hnm hok hf X h hq).mono fun e X' hh => .inr ⟨hp, hh⟩
 · have hp : Rg.pushB (L.map Rg.St.s) q.s = false := Rg.qeK fun hh => hok hh.1
   exact (qjh B L q l hl hlen (by omega) hlo hty hnm hok X h hq).mono fun e X' hh => .inr ⟨hp, hh⟩
def TwoX (LP : qdG) (w : World) (Br Bm : Nat) (M : List Fd.S) (L : List Rg.St) (AO : Option Addr) (ML : List Rg.St) (X : World) : Prop := ∃ G, TwoR LP w Br Bm M L AO ML G X
section
variable {LP : qdG} {w : World} {Br Bm : Nat} {M M' : List Fd.S} {L : List Rg.St} {AO : Option Addr} {ML ML' : List Rg.St} {X X' : World}
theorem TwoX.rows (h : TwoX LP w Br Bm M L AO ML X) : qdU X AO L.length L := by obtain ⟨G, h⟩ := h; exact h.rows
theorem TwoX.ring (h : TwoX LP w Br Bm M L AO ML X) : qa1 Bm ML X := by obtain ⟨G, h⟩ := h; exact h.ring
theorem TwoX.down (h : TwoX LP w Br Bm M L AO ML X) : Below w.heap.size w X := by obtain ⟨G, h⟩ := h; exact h.hold.down
variable (C : qhg LP)
include C
theorem TwoX.call (h : TwoX LP w Br Bm M L AO ML X) (hb : Below X.heap.size X X') : TwoX LP w Br Bm M L AO ML X' := by
 obtain ⟨G, h⟩ := h
 exact ⟨_, h.call C hb⟩
theorem TwoX.qqk (ho : Rg.Ok M) (q : Rg.St) (hty : Gm.ty q.g) (hn : q.g.qaa.length <= maxLen) (h : TwoX LP w Br Bm M L AO ML X) (hL : Lies X X.heap.size 6 q.A q.g.qaa.length (Gm.qab q.g.qaa)) :
 Calls Tryz.prog 12 #[.pointer (some ⟨Br, 0, none⟩), .agg q.arr] X fun e X' => e = .returned (.bool (Rg.pushB M q.s)) /\ TwoX LP w Br Bm (Rg.push M q.s) L AO ML X' := by
 obtain ⟨G, h⟩ := h
 exact (P15.qnL C ho q hty hn h.hold hL).mono fun e X' hh => ⟨hh.1, G, h.says hh.2.1 hh.2.2.1 hh.2.2.2⟩
theorem TwoX.rcut (ho : Rg.Ok M) (f : Int) (hf : -9223372036854775808 <= f /\ f <= 9223372036854775807) (h : TwoX LP w Br Bm M L AO ML X) :
 Calls Tryz.prog 15 #[.pointer (some ⟨Br, 0, none⟩), .int .i64 f] X fun e X' => e = .returned (.bool (Rg.hasB M f)) /\ TwoX LP w Br Bm (Rg.cut M f) L AO ML X' := by
 obtain ⟨G, h⟩ := h
 obtain ⟨F, f1, f2, f3⟩ := id h.hold
 exact (C.cut _ F Br M ho f hf X f1 f3.size).mono fun e X' hh => by
  obtain ⟨a, b, c⟩ := qbd.says C.ob f1 f2 f3 hh
  obtain ⟨_, _, _, _, hK⟩ := hh
  exact ⟨a, G, h.says b c hK.size⟩
theorem TwoX.qqD (ho : Rg.Ok M) (f : Int) (hf : -9223372036854775808 <= f /\ f <= 9223372036854775807) (h : TwoX LP w Br Bm M L AO ML X) :
 Calls Tryz.prog 17 #[.pointer (some ⟨Br, 0, none⟩), .int .i64 f] X fun e X' => e = .returned (.bool (Rg.hasB M f)) /\ TwoX LP w Br Bm (Rg.drop M f) L AO ML X' := by
 obtain ⟨G, h⟩ := h
 obtain ⟨F, f1, f2, f3⟩ := id h.hold
 exact (C.drop _ F Br M ho f hf X f1 f3.size).mono fun e X' hh => by
  obtain ⟨a, b, c⟩ := qbd.says C.ob f1 f2 f3 hh
  obtain ⟨_, _, _, _, hK⟩ := hh
  exact ⟨a, G, h.says b c hK.size⟩
theorem TwoX.qpR (ho : Rg.Ok M) (f : Int) (s : Fd.S) (hs : Rg.at_ M f = some s) (h : TwoX LP w Br Bm M L AO ML X) :
 Calls Tryz.prog 19 #[.pointer (some ⟨Br, 0, none⟩), .int .i64 f] X fun e X' => qhe s X e X' /\ TwoX LP w Br Bm M L AO ML X' := by
 obtain ⟨F, f1⟩ : ∃ F, LP w.heap.size F Br M X := by
  obtain ⟨G, h⟩ := h
  obtain ⟨F, f1, _⟩ := h.hold
  exact ⟨F, f1⟩
 exact (C.qe0 _ F Br M ho f s hs X f1).mono fun e X' hh => ⟨hh, h.call C (by obtain ⟨_, _, _, _, _, hb⟩ := hh; exact hb)⟩
theorem TwoX.qqo (ho : Rg.Ok M) (f : Int) (hf : -9223372036854775808 <= f /\ f <= 9223372036854775807) (hs : Rg.at_ M f = none) (h : TwoX LP w Br Bm M L AO ML X) :
 Calls Tryz.prog 19 #[.pointer (some ⟨Br, 0, none⟩), .int .i64 f] X fun e X' => e = .returned (.tuple #[.agg Im.zero, .bool false]) /\ TwoX LP w Br Bm M L AO ML X' := by
 obtain ⟨G, h⟩ := h
 exact (P15.qiO C ho f hf hs h.hold).mono fun e X' hh => ⟨hh.1, TwoX.call C ⟨G, h⟩ hh.2.2⟩
theorem TwoX.rlen (ho : Rg.Ok M) (h : TwoX LP w Br Bm M L AO ML X) :
 Calls Tryz.prog 22 #[.pointer (some ⟨Br, 0, none⟩)] X fun e X' => e = .returned (.int .i64 (M.length : Nat)) /\ Below X.heap.size X X' := by
 obtain ⟨G, h⟩ := h
 exact (P15.len C ho h.hold).mono fun e X' hh => ⟨hh.1, hh.2.2⟩
theorem TwoX.qpt (ho : Rg.Ok M) (h : TwoX LP w Br Bm M L AO ML X) :
 Calls Tryz.prog 23 #[.pointer (some ⟨Br, 0, none⟩)] X fun e X' => e = .returned (.int .i64 (Rg.first M)) /\ Below X.heap.size X X' := by
 obtain ⟨G, h⟩ := h
 exact (P15.first C ho h.hold).mono fun e X' hh => ⟨hh.1, hh.2.2⟩
theorem TwoX.qqm (ho : Rg.Ok M) (h : TwoX LP w Br Bm M L AO ML X) :
 Calls Tryz.prog 24 #[.pointer (some ⟨Br, 0, none⟩)] X fun e X' => e = .returned (.int .i64 (Rg.last M)) /\ Below X.heap.size X X' := by
 obtain ⟨G, h⟩ := h
 exact (P15.last C ho h.hold).mono fun e X' hh => ⟨hh.1, hh.2.2⟩
theorem TwoX.qlz {G : Nat -> Prop} (hM : Rg.Ok (ML.map Rg.St.s)) (q : Rg.St) (hty : Gm.ty q.g) (hn : q.g.qaa.length <= maxLen) (h : TwoR LP w Br Bm M L AO ML G X) (hL : Lies X X.heap.size 6 q.A q.g.qaa.length (Gm.qab q.g.qaa)) (hG : q.g.qaa.length ≠ 0 -> ∀ ad, q.A = some ad -> (G ad.block \/ ad.block < w.heap.size) /\ ad.block ≠ Bm) :
 Calls Tryz.prog 13 #[.pointer (some ⟨Bm, 0, none⟩), .agg q.arr] X fun e X' => e = .returned (.bool (Rg.pushB (ML.map Rg.St.s) q.s)) /\ ∃ ML', ML'.map Rg.St.s = Rg.push (ML.map Rg.St.s) q.s /\ TwoX LP w Br Bm M L AO ML' X' := by
 refine (qjj Bm ML q hM hty hn X h.ring hL).mono fun e X' hh => ?_
 rcases hh with ⟨hp, rfl, hr, ho, hi⟩ | ⟨hp, rfl, hb⟩
 · refine ⟨by rw [hp], ML ++ [q], by rw [Rg.qip hp, List.map_append]; rfl, _, h.mine C (by rw [List.length_append]; simp) ho hr (hi.more fun k hk => .inr hk) fun x hx h0 ad e => ?_⟩
   rcases List.mem_append.1 hx with hx | hx
   · exact h.rsh x hx h0 ad e
   · obtain rfl := List.mem_singleton.1 hx
     exact hG h0 ad e
 · exact ⟨by rw [hp], ML, (Rg.qkG hp).symm, _, h.call C hb⟩
theorem TwoX.qnQ (hM : Rg.Ok (ML.map Rg.St.s)) (q : Rg.St) (hty : Gm.ty q.g) (hn : q.g.qaa.length <= maxLen) (h : TwoX LP w Br Bm M L AO ML X) (hq : q ∈ L) :
 Calls Tryz.prog 13 #[.pointer (some ⟨Bm, 0, none⟩), .agg q.arr] X fun e X' => e = .returned (.bool (Rg.pushB (ML.map Rg.St.s) q.s)) /\ ∃ ML', ML'.map Rg.St.s = Rg.push (ML.map Rg.St.s) q.s /\ TwoX LP w Br Bm M L AO ML' X' := by
 obtain ⟨G, h⟩ := h
 exact TwoX.qlz C hM q hty hn h (h.sh q hq) fun h0 ad e => h.shG q hq h0 ad e
theorem TwoX.qnR (hM : Rg.Ok (ML.map Rg.St.s)) (q : Rg.St) (hty : Gm.ty q.g) (hn : q.g.qaa.length <= maxLen) (h : TwoX LP w Br Bm M L AO ML X) (hq : Lies w w.heap.size 6 q.A q.g.qaa.length (Gm.qab q.g.qaa)) :
 Calls Tryz.prog 13 #[.pointer (some ⟨Bm, 0, none⟩), .agg q.arr] X fun e X' => e = .returned (.bool (Rg.pushB (ML.map Rg.St.s) q.s)) /\ ∃ ML', ML'.map Rg.St.s = Rg.push (ML.map Rg.St.s) q.s /\ TwoX LP w Br Bm M L AO ML' X' := by
 obtain ⟨G, h⟩ := h
 refine TwoX.qlz C hM q hty hn h ((hq.below h.hold.down).wider h.hold.down.size) fun h0 ad e => ?_
 obtain ⟨ad', e', hb⟩ := hq.start h0
 rw [e] at e'
 injection e' with e'
 subst e'
 exact ⟨.inr hb, fun e => by have := (h.hold.lt h.stG).1; omega⟩
theorem TwoX.mcut (hM : Rg.Ok (ML.map Rg.St.s)) (f : Int) (h : TwoX LP w Br Bm M L AO ML X) :
 Calls Tryz.prog 16 #[.pointer (some ⟨Bm, 0, none⟩), .int .i64 f] X fun e X' => e = .returned (.bool (Rg.hasB (ML.map Rg.St.s) f)) /\ ∃ ML', ML'.map Rg.St.s = Rg.cut (ML.map Rg.St.s) f /\ TwoX LP w Br Bm M L AO ML' X' := by
 obtain ⟨G, h⟩ := h
 have h9 : ML.length <= 1000 := by have := hM.few; rw [List.length_map] at this; omega
 cases hp : Rg.hasB (ML.map Rg.St.s) f with
 | true =>
  obtain ⟨h1, h2⟩ := Rg.qdl hM hp
  refine (qkE Bm ML f _ h2 h1 h9 X h.ring).mono fun e X' hh => ?_
  obtain ⟨rfl, hr, ho, hi⟩ := hh
  refine ⟨rfl, _, ?_, _, h.mine C (by rw [List.length_take]; omega) ho hr ((hi _ h.rin).more fun k hk => .inl hk) fun x hx h0 ad e => h.rsh x (List.mem_of_mem_take hx) h0 ad e⟩
  unfold Rg.cut
  rw [if_pos hp, List.map_take]
 | false =>
  refine (qkF Bm ML f (Rg.qd3 hM hp) h9 X h.ring).mono fun e X' hh => ?_
  obtain ⟨rfl, rfl⟩ := hh
  refine ⟨rfl, ML, ?_, _, h⟩
  unfold Rg.cut
  rw [if_neg (by rw [hp]; decide)]
theorem TwoX.qqG (hM : Rg.Ok (ML.map Rg.St.s)) (f : Int) (h : TwoX LP w Br Bm M L AO ML X) :
 Calls Tryz.prog 18 #[.pointer (some ⟨Bm, 0, none⟩), .int .i64 f] X fun e X' => e = .returned (.bool (Rg.hasB (ML.map Rg.St.s) f)) /\ ∃ ML', ML'.map Rg.St.s = Rg.drop (ML.map Rg.St.s) f /\ TwoX LP w Br Bm M L AO ML' X' := by
 obtain ⟨G, h⟩ := h
 have h9 : ML.length <= 1000 := by have := hM.few; rw [List.length_map] at this; omega
 cases hp : Rg.hasB (ML.map Rg.St.s) f with
 | true =>
  obtain ⟨h1, h2⟩ := Rg.qdl hM hp
  refine (qjl Bm ML f _ h2 h1 h9 X h.ring).mono fun e X' hh => ?_
  obtain ⟨rfl, hr, ho, hi⟩ := hh
  refine ⟨rfl, _, ?_, _, h.mine C (by rw [List.length_drop]; omega) ho hr ((hi _ h.rin).more fun k hk => .inl hk) fun x hx h0 ad e => h.rsh x (List.mem_of_mem_drop hx) h0 ad e⟩
  unfold Rg.drop
  rw [if_pos hp, List.map_drop]
 | false =>
  refine (qjm Bm ML f (Rg.qd3 hM hp) h9 X h.ring).mono fun e X' hh => ?_
  obtain ⟨rfl, rfl⟩ := hh
  refine ⟨rfl, ML, ?_, _, h⟩
  unfold Rg.drop
  rw [if_neg (by rw [hp]; decide)]
end
theorem qkv (a : Int) (wa : -128 <= a /\ a <= 127) (w : World) :
 Calls Tryz.prog 61 #[.int .i8 a] w fun e w' => e = .returned (.int .i8 (Gf.tame a)) /\ w = w' := by
 go_enter Tryz.func61, Tryz.ntmps61
 go_wp2
 · go_ret
   exact ⟨qbB (by unfold Gf.tame; simp_all), rfl⟩
 · go_ret
   exact ⟨qbB (by unfold Gf.tame; simp_all), rfl⟩
theorem qmq (g : Gm.G) (v : Value) (s : Gm.Shot) (w : World) (hg : ∀ i, i < 8 -> Gm.qcM (g.ship i)) (hs : Gm.qde s) :
 Calls Tryz.prog 65 #[.agg (Gm.cells g v), .agg s.cells.toArray] w fun e w' => e = .returned (.int .i64 (Gm.hit g.ship s)) /\ Below w.heap.size w w' := by
 obtain ⟨owner, sx, sy, svx, svy, left⟩ := s
 obtain ⟨t1, t2, t3, t4, t5, t6⟩ := hs
 simp only [Gm.i32, Gm.i64] at t1 t2 t3 t4 t5 t6
 simp only [Gm.Shot.cells]
 go_enter Tryz.func65, Tryz.ntmps65
 go_wp2
 go_loopw [5] (fun i wr => ∃ k : Nat, k <= 8 /\ i = .int .i64 k /\ Box wr w.heap.size 33 (Gm.cells g v) /\ Box wr (w.heap.size + 1) 72 #[.int .i64 owner, .int .i32 sx, .int .i32 sy, .int .i32 svx, .int .i32 svy, .int .i64 left] /\ Below w.heap.size w wr /\
  Hid (Gm.hit g.ship ⟨owner, sx, sy, svx, svy, left⟩ = Gm.qcP g.ship ⟨owner, sx, sy, svx, svy, left⟩ (8 - k) k)) (fun i _ => 8 - (intOf i).toNat)
 case atStart => exact ⟨0, by omega, rfl, (Box.made _ _ _).alloc _, Box.qan _ _ _ (by simp), qal _ _ _, qh rfl⟩
 case round =>
  obtain ⟨k, hk, rfl, hB, hC, hb, hh⟩ := hrel
  by_cases hlt : k < 8
  · have hcr := hB.cell
    have hds := hC.cell
    have hlB := hB.lt
    have e0 := qa3 hcr hlt 0 (by omega)
    have e1 := qa3 hcr hlt 1 (by omega)
    have e2 := qa3 hcr hlt 2 (by omega)
    have ho := hg k hlt
    have hq : Gm.qcr g.ship ⟨owner, sx, sy, svx, svy, left⟩ k = ((g.ship k).on && (decide ((k : Int) ≠ owner) && Gf.hits sx sy (g.ship k).x (g.ship k).y)) := rfl
    have HQ := qh hq
    clear hq
    generalize g.ship k = s at e0 e1 e2 ho HQ
    obtain ⟨on, x, y, vx, vy, cool, score⟩ := s
    simp only [Gm.Ship.cells, List.getElem?_cons_zero, List.getElem?_cons_succ, Nat.add_zero] at e0 e1 e2
    obtain ⟨o1, o2, o3, o4, o5, o6⟩ := ho
    simp only [Gm.i32] at o1 o2
    dsimp only at HQ
    have f0 := hds 0
    have f1 := hds 1
    have f2 := hds 2
    simp only [List.getElem?_toArray, List.getElem?_cons_zero, List.getElem?_cons_succ] at f0 f1 f2
    have hk8 : (k : Int) < 8 := by omega
    clear hcr hds
    have HN : Gm.qcr g.ship ⟨owner, sx, sy, svx, svy, left⟩ k = false -> Hid (Gm.hit g.ship ⟨owner, sx, sy, svx, svy, left⟩ = Gm.qcP g.ship ⟨owner, sx, sy, svx, svy, left⟩ (8 - (k + 1)) (k + 1)) := fun h => qh (by
     rw [hh.out, show 8 - k = (8 - (k + 1)) + 1 from by omega, Gm.qcG h])
    have HY : Gm.qcr g.ship ⟨owner, sx, sy, svx, svy, left⟩ k = true -> Gm.hit g.ship ⟨owner, sx, sy, svx, svy, left⟩ = (k : Int) := fun h => by
     rw [hh.out, show 8 - k = (8 - (k + 1)) + 1 from by omega, Gm.qev h]
    rw [HQ.out] at HN HY
    have HN := qh HN
    have HY := qh HY
    clear hh HQ
    cases on
    · have HN := HN.out (by simp)
      clear HY
      go_wp2_with fail
      go_quiet (fail)
      go_wp2
      go_roundw
      case rel => exact ⟨k + 1, by omega, by go_num, hB.draws _, hC.draws _, qaj hb _, HN⟩
      case measure => simp [intOf]; omega
    · by_cases hko : (k : Int) = owner
      · have hko' : ((k : Int) != owner) = false := by simpa using hko
        have HN := HN.out (by simp [hko])
        clear HY hko
        go_wp2_with fail
        go_quiet (fail)
        go_wp2
        go_roundw
        case rel => exact ⟨k + 1, by omega, by go_num, hB.draws _, hC.draws _, qaj hb _, HN⟩
        case measure => simp [intOf]; omega
      · have hko' : ((k : Int) != owner) = true := by simpa using hko
        cases hH : Gf.hits sx sy x y
        · have HN := HN.out (by simp [hH])
          have c1 := fun X => qh (qgy sx sy x y t2 t3 o1 o2 X)
          rw [hH] at c1
          clear HY hko hH
          go_wp2_with fail
          go_quiet ((go_at_call 86; with_reducible exact qb3 (c1 _).out))
          go_wp2
          go_roundw
          case rel => exact ⟨k + 1, by omega, by go_num, hB.draws _, hC.draws _, qaj hb _, HN⟩
          case measure => simp [intOf]; omega
        · have HY := HY.out (by simp [hH, hko])
          have HY := qh HY
          have c1 := fun X => qh (qgy sx sy x y t2 t3 o1 o2 X)
          rw [hH] at c1
          clear HN hko hH
          go_wp2_with fail
          go_quiet ((go_at_call 86; with_reducible exact qb3 (c1 _).out))
          go_wp2
          go_ret
          exact ⟨qbB HY.out.symm, qaj hb _⟩
  · have hk8 : ¬ (k : Int) < 8 := by omega
    have HH := qh (show Gm.hit g.ship ⟨owner, sx, sy, svx, svy, left⟩ = -1 by rw [hh.out, show 8 - k = 0 from by omega]; rfl)
    clear hh
    go_wp2
    go_ret
    exact ⟨qbB HH.out.symm, hb⟩
structure qe5 (ps : Nat -> Gm.In) (g : Gm.G) (w wr : World) (Bi Br Bn k : Nat) : Prop where
 own : ∃ A c, Box wr Bn 33 (Gm.cells { g with ship := (Gm.ph1 ps g k).1 } (.slice A (Gm.ph1 ps g k).2.length c)) /\ wr.ownsRow w.heap.size 72 6 (.slice A (Gm.ph1 ps g k).2.length c) (Gm.ph1 ps g k).2.length (Gm.qab (Gm.ph1 ps g k).2)
 ins : Box wr Bi 49 (Gm.qaI ps).toArray
 res : Box wr Br 33 (Gm.cells qbn (.slice none 0 0))
 below : Below w.heap.size w wr
theorem qki {ps : Nat -> Gm.In} {g : Gm.G} {w w1 w2 : World} {A1 : Option Addr} {c1 : Nat} {Bi Br n : Nat} {s : Value} (hn : n = g.qaa.length) (hb : Below w.heap.size w w1) (hi : Box w1 Bi 49 (Gm.qaI ps).toArray) (hr : Box w1 Br 33 (Gm.cells qbn (.slice none 0 0)))
 (own1 : w2.ownsRow w.heap.size 72 6 (.slice A1 (0 + n) c1) (0 + n) ([] ++ Gm.qab g.qaa)) (hg : World.grownBy ((w1.alloc (.cells (Gm.cells g s) 33)).alloc (.cells #[] 72)) w2 (Value.ownBlock (.slice (some ⟨w1.heap.size + 1, 0, none⟩) 0 0))) :
 qe5 ps g w (w2.setCell ⟨w1.heap.size, 58, none⟩ (.slice A1 n c1)) Bi Br w1.heap.size 0 := by
 have hB := hb.size
 have bn : Box w2 w1.heap.size 33 (Gm.cells g s) := ((Box.made w1 _ _).alloc _).grown hg (by intro e; injection e with e; simp at e)
 have bi := ((hi.alloc (.cells (Gm.cells g s) 33)).alloc (.cells #[] 72)).grown hg (by intro e; injection e with e; have := hi.lt; simp at e; omega)
 have br := ((hr.alloc (.cells (Gm.cells g s) 33)).alloc (.cells #[] 72)).grown hg (by intro e; injection e with e; have := hr.lt; simp at e; omega)
 rw [Nat.zero_add, List.nil_append] at own1
 subst hn
 have hne := bn.qaO own1 (by decide)
 refine ⟨⟨A1, c1, qcd bn _, ?_⟩, bi.far (by have := hi.lt; show Bi ≠ w1.heap.size; omega) _, br.far (by have := hr.lt; show Br ≠ w1.heap.size; omega) _, ?_⟩
 · exact ownsRow_setCell_other own1 (a := ⟨w1.heap.size, 58, none⟩) hne _
 · refine Below.setCell ?_ hB _
   refine Below.grown ((hb.alloc hB _).alloc (by simp <;> omega) _) hg (by simp <;> omega) ?_
   intro k hk
   injection hk with hk
   have : w1.heap.size + 1 = k := hk
   omega
theorem qe5.alloc {ps : Nat -> Gm.In} {g : Gm.G} {w wr : World} {Bi Br Bn k : Nat} (h : qe5 ps g w wr Bi Br Bn k) (o : Obj) : qe5 ps g w (wr.alloc o) Bi Br Bn k := by
 obtain ⟨⟨A, c, hB, hO⟩, hI, hR, hb⟩ := h
 exact ⟨⟨A, c, hB.alloc o, hO.alloc o⟩, hI.alloc o, hR.alloc o, hb.alloc hb.size o⟩
theorem qe5.drew {ps : Nat -> Gm.In} {g : Gm.G} {w wr : World} {Bi Br Bn k : Nat} (h : qe5 ps g w wr Bi Br Bn k) : qe5 ps g w wr.drew Bi Br Bn k := by
 obtain ⟨⟨A, c, hB, hO⟩, hI, hR, hb⟩ := h
 exact ⟨⟨A, c, hB.drew, hO.drew⟩, hI.drew, hR.drew, hb.drew⟩
theorem qgh {ps : Nat -> Gm.In} {g : Gm.G} {w wr : World} {Bi Br Bn k m c1 : Nat} {A1 : Option Addr} (hk : k < 8) (hm : m = (Gm.ph1 ps g k).2.length)
 (hB : Box wr Bn 33 (Gm.cells { g with ship := (Gm.ph1 ps g k).1 } (.slice A1 m c1))) (hO : wr.ownsRow w.heap.size 72 6 (.slice A1 m c1) m (Gm.qab (Gm.ph1 ps g k).2))
 (hI : Box wr Bi 49 (Gm.qaI ps).toArray) (hR : Box wr Br 33 (Gm.cells qbn (.slice none 0 0))) (hb : Below w.heap.size w wr) (hBn : w.heap.size <= Bn) (nI : Bi ≠ Bn) (nR : Br ≠ Bn)
 (t : Gm.Ship) (ht : Gm.moved (ps k) m ((Gm.ph1 ps g k).1 k) = t) (hmade : Gm.made (ps k) m k ((Gm.ph1 ps g k).1 k) = []) : qe5 ps g w (stored wr Bn k t) Bi Br Bn (k + 1) := by
 have e1 : (Gm.ph1 ps g (k + 1)).1 = Gm.upd (Gm.ph1 ps g k).1 k t := by rw [<- ht, hm]; rfl
 have e2 : (Gm.ph1 ps g (k + 1)).2 = (Gm.ph1 ps g k).2 := by
  show (Gm.ph1 ps g k).2 ++ Gm.made _ _ _ _ = _
  rw [<- hm, hmade, List.append_nil]
 refine ⟨⟨A1, c1, ?_, ?_⟩, qcD hI nI t, qcD hR nR t, qcU hb hBn t⟩
 · rw [e1, e2, <- hm]
   exact qdF (g := { g with ship := (Gm.ph1 ps g k).1 }) hB hk t
 · rw [e2, <- hm]
   exact qe9 hO (hB.qaO hO (by decide)) t
theorem qnt {ps : Nat -> Gm.In} {g : Gm.G} {w wr : World} {Bi Br Bn k : Nat} (h : qe5 ps g w wr Bi Br Bn k) (ho : ((Gm.ph1 ps g k).1 k).on = false) : qe5 ps g w wr Bi Br Bn (k + 1) := by
 have e := Gm.qly (p := ps k) (n := (Gm.ph1 ps g k).2.length) (i := k) ho
 have e0 : Gm.ph1 ps g (k + 1) = Gm.ph1 ps g k := by
  show (Gm.upd _ k _, _ ++ _) = _
  rw [e.1, e.2, Gm.qdX, List.append_nil]
 obtain ⟨⟨A, c, hB, hO⟩, hI, hR, hb⟩ := h
 exact ⟨⟨A, c, by rw [e0]; exact hB, by rw [e0]; exact hO⟩, hI, hR, hb⟩
theorem qlZ {ps : Nat -> Gm.In} {g : Gm.G} {w w2 : World} {Bi Br Bn Bs k m c1 c2 : Nat} {A1 A2 : Option Addr} (hk : k < 8) (hm : m = (Gm.ph1 ps g k).2.length) (s : Gm.Shot)
 (hB : Box w2 Bn 33 (Gm.cells { g with ship := (Gm.ph1 ps g k).1 } (.slice A1 m c1))) (hO : w2.ownsRow w.heap.size 72 6 (.slice A2 (m + 1) c2) (m + 1) (Gm.qab (Gm.ph1 ps g k).2 ++ Gm.qab [s]))
 (hI : Box w2 Bi 49 (Gm.qaI ps).toArray) (hR : Box w2 Br 33 (Gm.cells qbn (.slice none 0 0))) {cs : Array Value} (hS : Box w2 Bs 29 cs) (hb : Below w.heap.size w w2) (hBn : w.heap.size <= Bn) (hBs : w.heap.size <= Bs) (nI : Bi ≠ Bn) (nR : Br ≠ Bn) (nIs : Bi ≠ Bs) (nRs : Br ≠ Bs) (nBs : Bn ≠ Bs)
 (t : Gm.Ship) (u : Value) (ht : Gm.moved (ps k) m ((Gm.ph1 ps g k).1 k) = t) (hmade : Gm.made (ps k) m k ((Gm.ph1 ps g k).1 k) = [s]) :
 qe5 ps g w (stored ((w2.setCell ⟨Bn, 58, none⟩ (.slice A2 (m + 1) c2)).setCell ⟨Bs, 5, none⟩ u) Bn k t) Bi Br Bn (k + 1) := by
 have e1 : (Gm.ph1 ps g (k + 1)).1 = Gm.upd (Gm.ph1 ps g k).1 k t := by rw [<- ht, hm]; rfl
 have e2 : (Gm.ph1 ps g (k + 1)).2 = (Gm.ph1 ps g k).2 ++ [s] := by
  show (Gm.ph1 ps g k).2 ++ Gm.made _ _ _ _ = _
  rw [<- hm, hmade]
 have nO := hB.qaO hO (by decide)
 have nOs := hS.qaO hO (by decide)
 have hO1 := ownsRow_setCell_other (a := ⟨Bn, 58, none⟩) hO nO (.slice A2 (m + 1) c2)
 have hO2 := ownsRow_setCell_other (a := ⟨Bs, 5, none⟩) hO1 nOs u
 have hl : (Gm.ph1 ps g (k + 1)).2.length = m + 1 := by rw [e2, List.length_append, hm]; rfl
 refine ⟨⟨A2, c2, ?_, ?_⟩, qcD ((hI.far (p := ⟨Bn, 58, none⟩) nI _).far (p := ⟨Bs, 5, none⟩) nIs _) nI t, qcD ((hR.far (p := ⟨Bn, 58, none⟩) nR _).far (p := ⟨Bs, 5, none⟩) nRs _) nR t, qcU ((hb.setCell hBn _).setCell hBs _) hBn t⟩
 · rw [e1, hl]
   exact qdF (g := { g with ship := (Gm.ph1 ps g k).1 }) ((qcd hB _).far (p := ⟨Bs, 5, none⟩) nBs _) hk t
 · rw [hl, e2, Gm.qcv]
   exact qe9 hO2 nO t
structure qch (g : Gm.G) (l : List Gm.Shot) (st : Gm.St) (A1 : Option Addr) (c1 : Nat) (w wr : World) (Br Bn Bl : Nat) (s12 : Value) : Prop where
 game : Box wr Bn 33 (Gm.cells { g with dice := st.dice, ship := st.ship } (.slice A1 l.length c1))
 qaa : Lies wr Bl 6 A1 l.length (Gm.qab l)
 left : ∃ A c, s12 = .slice A st.left.length c /\ wr.ownsRow Bl 72 6 (.slice A st.left.length c) st.left.length (Gm.qab st.left)
 res : Box wr Br 33 (Gm.cells qbn (.slice none 0 0))
 below : Below w.heap.size w wr
 size : Bl <= wr.heap.size
theorem qch.alloc {g : Gm.G} {l : List Gm.Shot} {st : Gm.St} {A1 : Option Addr} {c1 : Nat} {w wr : World} {Br Bn Bl : Nat} {s12 : Value} (h : qch g l st A1 c1 w wr Br Bn Bl s12) (o : Obj) : qch g l st A1 c1 w (wr.alloc o) Br Bn Bl s12 := by
 obtain ⟨h1, h2, ⟨A, c, e, h3⟩, h4, h5, h6⟩ := h
 exact ⟨h1.alloc o, h2.stays fun b hb => Below.heap_alloc wr o b (by omega), ⟨A, c, e, h3.alloc o⟩, h4.alloc o, h5.alloc h5.size o, by simp; omega⟩
theorem qch.drew {g : Gm.G} {l : List Gm.Shot} {st : Gm.St} {A1 : Option Addr} {c1 : Nat} {w wr : World} {Br Bn Bl : Nat} {s12 : Value} (h : qch g l st A1 c1 w wr Br Bn Bl s12) : qch g l st A1 c1 w wr.drew Br Bn Bl s12 := by
 obtain ⟨h1, h2, ⟨A, c, e, h3⟩, h4, h5, h6⟩ := h
 exact ⟨h1.drew, ⟨h2.len, h2.start, h2.cell⟩, ⟨A, c, e, h3.drew⟩, h4.drew, h5.drew, h6⟩
theorem qch.on {g : Gm.G} {l : List Gm.Shot} {st : Gm.St} {A1 : Option Addr} {c1 : Nat} {w wr w' : World} {Br Bn Bl : Nat} {s12 : Value} (h : qch g l st A1 c1 w wr Br Bn Bl s12) (hb : Below wr.heap.size wr w') : qch g l st A1 c1 w w' Br Bn Bl s12 := by
 obtain ⟨h1, h2, ⟨A, c, e, h3⟩, h4, h5, h6⟩ := h
 exact ⟨h1.below hb h1.lt, h2.stays fun b hb' => hb.block b (by omega), ⟨A, c, e, own_below h3 hb (Nat.le_refl _)⟩, h4.below hb h4.lt, h5.trans (hb.mono h5.size), Nat.le_trans h6 hb.size⟩
theorem qgg {g : Gm.G} {l : List Gm.Shot} {st : Gm.St} {A1 A2 A' : Option Addr} {c1 c2 c' : Nat} {w w1 w2 : World} {Br Bn Bl : Nat} {s12 : Value} {o : Obj} {s : Gm.Shot} (h : qch g l st A1 c1 w w1 Br Bn Bl s12)
 (hO : w1.ownsRow Bl 72 6 (.slice A2 st.left.length c2) st.left.length (Gm.qab st.left)) (hO2 : w2.ownsRow Bl 72 6 (.slice A' (st.left.length + 1) c') (st.left.length + 1) (Gm.qab st.left ++ Gm.qab [s]))
 (hg : (w1.alloc o).grownBy w2 (Value.ownBlock (.slice A2 st.left.length c2))) (hBl : w.heap.size <= Bl) : qch g l { st with left := st.left ++ [s] } A1 c1 w w2 Br Bn Bl (.slice A' (st.left.length + 1) c') := by
 have hs := h.size
 have hl : (st.left ++ [s]).length = st.left.length + 1 := by simp
 refine ⟨qb9 h.game hO (by decide) hg, h.qaa.stays fun b hb => ?_, ⟨A', c', by rw [hl], ?_⟩, qb9 h.res hO (by decide) hg, ?_, ?_⟩
 · have e1 := hg.block b (by simp; omega) (fun e => by have := (hO.lt b e.symm).1; omega)
   exact e1.trans (Below.heap_alloc w1 o b (by omega))
 · rw [hl, Gm.qcv]; exact hO2
 · exact (h.below.alloc h.below.size o).grown hg (by have := h.below.size; simp; omega) (fun k hk => by have := (hO.lt k hk).1; have := h.below.size; omega)
 · have := hg.size; simp at this; omega
theorem qoX {w w' : World} {b n size Bn : Nat} {e : TypeId} {v : Value} {xs : List Value} (h : w.ownsRow b e size v n xs) (hne : v.ownBlock ≠ some Bn) (hk : ∀ k, k ≠ Bn -> k < w.heap.size -> w'.heap[k]? = w.heap[k]?) : w'.ownsRow b e size v n xs := by
 obtain ⟨hl, e | ⟨gg, cap, cur, hv, hbg, hgg, hr⟩⟩ := h
 · exact ⟨hl, .inl e⟩
 · exact ⟨hl, .inr ⟨gg, cap, cur, hv, hbg, (hk gg (fun e => hne (by rw [hv, e]; rfl)) (Array.getElem?_eq_some_iff.1 hgg).1).trans hgg, hr⟩⟩
theorem Lies.qqI {w w' : World} {B Bn n m c : Nat} {A A' : Option Addr} {l : List Gm.Shot} {g : Gm.G} (h : Lies w B 6 A n (Gm.qab l)) (hn : n = l.length) (hB : Box w Bn 33 (Gm.cells g (.slice A' m c))) (hk : ∀ k, k ≠ Bn -> k < B -> w'.heap[k]? = w.heap[k]?) : Lies w' B 6 A n (Gm.qab l) := by
 refine ⟨h.len, h.start, fun ad e h0 j u hu => ?_⟩
 have hne := h.qlw hn hB h0 ad e
 obtain ⟨ad', e', hlt⟩ := h.start h0
 rw [e] at e'; injection e' with e'; subst e'
 rw [World.cell?_of_block (w := w) (by rw [add_block]; exact hk _ hne hlt)]
 exact h.cell ad e h0 j u hu
theorem qch.hit {g : Gm.G} {l : List Gm.Shot} {st st' : Gm.St} {A1 : Option Addr} {c1 : Nat} {w wr w' : World} {Br Bn Bl : Nat} {s12 : Value} (h : qch g l st A1 c1 w wr Br Bn Bl s12) (hl : st'.left = st.left)
 (hB : Box w' Bn 33 (Gm.cells { g with dice := st'.dice, ship := st'.ship } (.slice A1 l.length c1))) (hk : ∀ b, b ≠ Bn -> b < wr.heap.size -> w'.heap[b]? = wr.heap[b]?) (hw : w.heap.size <= Bn) (hbn : Below Bn wr w') (nR : Br ≠ Bn) : qch g l st' A1 c1 w w' Br Bn Bl s12 := by
 obtain ⟨h1, h2, ⟨A, c, e, h3⟩, h4, h5, h6⟩ := h
 exact ⟨hB, h2.qqI rfl h1 (fun k hk1 hk2 => hk k hk1 (by omega)), ⟨A, c, by rw [hl]; exact e, by rw [hl]; exact qoX h3 (h1.qaO h3 (by decide)) hk⟩, ⟨(hk Br nR h4.lt).trans h4.is⟩, h5.trans (hbn.mono hw), by have := hbn.size; omega⟩
open Go.RowKit Go.Shelf
structure Typed (w : World) (t : TypeId) (A : Option Addr) : Prop where
 is : ∀ ad, A = some ad -> ∃ cs fz, w.heap[ad.block]? = some (.cells cs t fz)
section
variable {w w' : World} {t : TypeId} {A : Option Addr}
theorem Typed.none : Typed w t none := ⟨fun ad h => nomatch h⟩
theorem Typed.lt (h : Typed w t A) {ad : Addr} (e : A = some ad) : ad.block < w.heap.size := by
 obtain ⟨cs, fz, h1⟩ := h.is ad e
 exact (Array.getElem?_eq_some_iff.1 h1).1
theorem Typed.below {B : Nat} (h : Typed w t A) (hb : Below B w w') (hB : w.heap.size <= B) : Typed w' t A := ⟨fun ad e => by
 obtain ⟨cs, fz, h1⟩ := h.is ad e
 exact ⟨cs, fz, (hb.block _ (Nat.lt_of_lt_of_le (h.lt e) hB)).trans h1⟩⟩
theorem Typed.call (h : Typed w t A) (hb : Below w.heap.size w w') : Typed w' t A := h.below hb (Nat.le_refl _)
theorem Typed.row {B : Nat} {t' : TypeId} {old : Array Value} (h : Typed w t A) (hB : Box w B t' old) (cs : Array Value) : Typed (w.setRow B cs) t A := ⟨fun ad e => by
 obtain ⟨cs1, fz, h1⟩ := h.is ad e
 by_cases eb : ad.block = B
 · rw [eb, hB.is] at h1
   injection h1 with h1
   injection h1 with _ ht _
   subst ht
   rw [eb]
   exact ⟨_, _, (hB.row cs).is⟩
 · exact ⟨cs1, fz, (setRow_other w B _ cs eb).trans h1⟩⟩
theorem Typed.owned {base size n c : Nat} {xs : List Value} (h : w.ownsRow base t size (.slice A n c) n xs) : Typed w t A := ⟨fun ad e => by
 obtain ⟨_, ⟨h1, _⟩ | ⟨g, cap, cur, hv, _, hg, _⟩⟩ := h
 · injection h1 with h1; rw [e] at h1; cases h1
 · injection hv with h1
   rw [e] at h1
   injection h1 with h1
   rw [h1]
   exact ⟨_, _, hg⟩⟩
end
def qpn (g' : Gm.G) (w : World) (e : Ending) (w' : World) : Prop :=
 ∃ A c, e = .returned (.tuple #[.agg (Gm.cells g' (.slice A g'.qaa.length c)), .int .i64 0]) /\ Lies w' w'.heap.size 6 A g'.qaa.length (Gm.qab g'.qaa) /\ Typed w' 72 A /\ Below w.heap.size w w'
theorem qkw (ps : Nat -> Gm.In) (g : Gm.G) (A : Option Addr) (n c : Nat) (w : World) (hg : Gm.ok g) (hf : g.frame < 1048576) (hd : 0 <= g.dice /\ g.dice <= 18446744073709551615) (hp : ∀ i, i < 8 -> Gm.tyIn (ps i)) (hn : n = g.qaa.length) (hr : Lies w w.heap.size 6 A n (Gm.qab g.qaa)) :
 Calls Tryz.prog 38 #[.agg (Gm.cells g (.slice A n c)), .agg (Gm.qaI ps).toArray] w (qpn (Gm.step ps g) w) := by
 have b1 : Box (((w.alloc (.cells (Gm.cells g (.slice A n c)) 33)).alloc (.cells (Gm.qaI ps).toArray 49)).alloc (.cells (Gm.cells qbn (.slice none 0 0)) 33)) w.heap.size 33 (Gm.cells g (.slice A n c)) := ((Box.made _ _ _).alloc _).alloc _
 have b2 : Box (((w.alloc (.cells (Gm.cells g (.slice A n c)) 33)).alloc (.cells (Gm.qaI ps).toArray 49)).alloc (.cells (Gm.cells qbn (.slice none 0 0)) 33)) (w.heap.size + 1) 49 (Gm.qaI ps).toArray := (Box.qan _ _ _ (by simp)).alloc _
 have b3 : Box (((w.alloc (.cells (Gm.cells g (.slice A n c)) 33)).alloc (.cells (Gm.qaI ps).toArray 49)).alloc (.cells (Gm.cells qbn (.slice none 0 0)) 33)) (w.heap.size + 1 + 1) 33 (Gm.cells qbn (.slice none 0 0)) := Box.qan _ _ _ (by simp)
 have hb0 : Below w.heap.size w (((w.alloc (.cells (Gm.cells g (.slice A n c)) 33)).alloc (.cells (Gm.qaI ps).toArray 49)).alloc (.cells (Gm.cells qbn (.slice none 0 0)) 33)) := (qal w _ _).alloc (by simp <;> omega) _
 have cm := qh (qfg g A n c _ hg hn ((hr.below hb0).wider hb0.size))
 have hf0 : 0 <= g.frame := hg.1
 have fr : (g.frame == 1048576) = false := by simpa using Int.ne_of_lt hf
 have e0 := Gm.qaS g (.slice A n c)
 have e58 := Gm.qaZ g (.slice A n c)
 have hN := qh hn
 have B1 := qh b1
 have B2 := qh b2
 have B3 := qh b3
 have HB := qh hb0
 have hn32 : n <= 32 := by rw [hn]; exact hg.2.2.1
 obtain ⟨i0, hi0, hz0, hz1, hz2⟩ := info_parts qdi
 have hI := qh hi0
 have hZ := qh hz0
 have hS := qh hz1
 have hY := qh hz2
 have hL := qh hr
 clear hn b1 b2 b3 hb0 hi0 hz0 hz1 hz2 hr
 go_enter Tryz.func38, Tryz.ntmps38
 go_upto_block 0 with (first | (refine qaF rfl rfl ?_) | ((with_reducible refine qaG rfl rfl ?_); apply qaL.mk rfl; (with_reducible exact B1.out)) | ((with_reducible refine qaG rfl rfl ?_); apply qaL.mk rfl; exact c1) | (go_at_call 58; ((with_reducible refine (cm.out).mono ?_); rintro e w1 ⟨rfl, hb⟩; have c1 := B1.out.below hb (by simp <;> omega); have c2 := qh (B2.out.below hb (by simp <;> omega)); have c3 := qh (B3.out.below hb (by simp)); have cc := c1.cell; have cl := c1.lt; have hbb := HB.out.trans (hb.mono HB.out.size); have hL1 := qh ((hL.out.below hbb).wider hbb.size); have hbH := qh hbb; have hws := hbb.size; clear hb hbb)) | (refine qaJ rfl rfl rfl rfl rfl rfl ?_) | ((with_reducible refine qcn (x := .tmp 28) (y := .tmp 30) (t := 31) (e := 72) (size := 6) (bytes := 32) rfl rfl Tryz.underlying31 hI.out hZ.out hS.out hY.out rfl (by decide) ?_); refine qdJ.mk rfl (qoj w1 w.heap.size _ hws) (qo3 hL1.out _ _) (qbA _) (by unfold maxLen; omega) (by omega) (by simp <;> omega) ?_; intro A1 k1 w2 own1 hg1; have bn := ((Box.made w1 33 (Gm.cells g (.slice A n c))).alloc (.cells #[] 72)).grown hg1 (by intro e; injection e with e; simp at e); have bc := bn.cell; have bf := bn.free; have bl := bn.lt; have HO := qh own1; have HG := qh hg1; clear own1 hg1 cc c1))
 go_step
 generalize hBn : w1.heap.size = Bn
 have hS := qh (qki (ps := ps) hN.out hbH.out c2.out c3.out HO.out HG.out)
 rw [hBn] at hS
 have hBnw : w.heap.size + 1 + 1 < Bn := hBn ▸ c3.out.lt
 clear bn bc bf bl HO HG hL1 cl cm e58 hL B1 B2 B3 HB hbH hws c2 c3 hBn
 go_loopg [7] 8 (fun gg i wr => ∃ k : Nat, k <= 8 /\ gg = 8 - k /\ i = .int .i64 k /\ qe5 ps g w wr (w.heap.size + 1) (w.heap.size + 1 + 1) Bn k)
 case atStart => exact ⟨0, by omega, rfl, rfl, hS.out⟩
 case round =>
  obtain ⟨k, hk, rfl, rfl, hR⟩ := hrel
  clear hS
  by_cases hlt : k < 8
  · obtain ⟨⟨A1, c1, hB, hO⟩, hI1, hR1, hb⟩ := hR
    have hcr := hB.cell
    have hlB := hB.lt
    have hfB := hB.free
    have hic := hI1.cell
    have hil := hI1.lt
    have way := Gm.qiq (ps := ps) hg k (by omega)
    have ho := way.qbV k hlt
    have hl32 := way.len
    have a0 := qa3 hcr hlt 0 (by omega)
    have a1 := qa3 hcr hlt 1 (by omega)
    have a2 := qa3 hcr hlt 2 (by omega)
    have a3 := qa3 hcr hlt 3 (by omega)
    have a4 := qa3 hcr hlt 4 (by omega)
    have a5 := qa3 hcr hlt 5 (by omega)
    have a6 := qa3 hcr hlt 6 (by omega)
    have q0 := (hic _).trans (Gm.qcl ps k 0 hlt (by omega))
    have q1 := (hic _).trans (Gm.qcl ps k 1 hlt (by omega))
    have q2 := (hic _).trans (Gm.qcl ps k 2 hlt (by omega))
    have hpk := hp k hlt
    obtain ⟨s, hs⟩ : ∃ s, s = (Gm.ph1 ps g k).1 k := ⟨_, rfl⟩
    obtain ⟨p, hpp⟩ : ∃ p, p = ps k := ⟨_, rfl⟩
    obtain ⟨m, hm⟩ : ∃ m, m = (Gm.ph1 ps g k).2.length := ⟨_, rfl⟩
    simp only [<- hs, <- hpp, <- hm] at a0 a1 a2 a3 a4 a5 a6 q0 q1 q2 hpk ho hl32
    have e58 := (hcr 58).trans (Gm.qaZ _ _)
    rw [<- hm] at e58
    have c0 := Gm.qae { g with ship := (Gm.ph1 ps g k).1 } (.slice A1 m c1) k 0 hlt (by omega)
    have c1' := Gm.qae { g with ship := (Gm.ph1 ps g k).1 } (.slice A1 m c1) k 1 hlt (by omega)
    have c2 := Gm.qae { g with ship := (Gm.ph1 ps g k).1 } (.slice A1 m c1) k 2 hlt (by omega)
    have c3 := Gm.qae { g with ship := (Gm.ph1 ps g k).1 } (.slice A1 m c1) k 3 hlt (by omega)
    have c4 := Gm.qae { g with ship := (Gm.ph1 ps g k).1 } (.slice A1 m c1) k 4 hlt (by omega)
    have c5 := Gm.qae { g with ship := (Gm.ph1 ps g k).1 } (.slice A1 m c1) k 5 hlt (by omega)
    have c6 := Gm.qae { g with ship := (Gm.ph1 ps g k).1 } (.slice A1 m c1) k 6 hlt (by omega)
    have c58 := Gm.qaZ { g with ship := (Gm.ph1 ps g k).1 } (.slice A1 m c1)
    simp only [<- hs] at c0 c1' c2 c3 c4 c5 c6
    have SS := qh hs
    have PP := qh hpp
    have MM := qh hm
    have HBB := qh hB
    have HOO := qh hO
    have HII := qh hI1
    have HRR := qh hR1
    have HSS := qh (show qe5 ps g w wr (w.heap.size + 1) (w.heap.size + 1 + 1) Bn k from ⟨⟨A1, c1, hm ▸ hB, hm ▸ hO⟩, hI1, hR1, hb⟩)
    have hbH := qh hb
    clear hs hpp hm hB hO hI1 hR1 way hcr hic hb
    obtain ⟨on, x, y, vx, vy, cool, score⟩ := s
    obtain ⟨px, py, pb⟩ := p
    obtain ⟨o1, o2, o3, o4, o5, o6, o7, o8, o9⟩ := ho
    simp only [Gm.Ship.cells, List.getElem?_cons_zero, List.getElem?_cons_succ, Nat.add_zero] at c0 c1' c2 c3 c4 c5 c6
    have K0 := qh c0
    have K1 := qh c1'
    have K2 := qh c2
    have K3 := qh c3
    have K4 := qh c4
    have K5 := qh c5
    have K6 := qh c6
    have K58 := qh c58
    clear c0 c1' c2 c3 c4 c5 c6 c58
    simp only [Gm.Ship.cells, Gm.In.cells, Gm.inF, Gm.slow, Gm.tyIn, List.getElem?_cons_zero, List.getElem?_cons_succ, Nat.add_zero] at a0 a1 a2 a3 a4 a5 a6 q0 q1 q2 o2 o3 o4 o5 o6 o7 o8 o9 hpk
    obtain ⟨p1, p2, p3⟩ := hpk
    have hk8 : (k : Int) < 8 := by omega
    cases on
    · clear o1
      go_wp2
      go_roundg (8 - (k + 1))
      case measure => omega
      case rel => exact ⟨k + 1, by omega, rfl, by go_num, (qnt HSS.out (by rw [<- SS.out])).alloc _⟩
    · clear o1
      have tx := Gf.qh2 (a := px) (by omega)
      have ty := Gf.qh2 (a := py) (by omega)
      go_upto_region 13 with fail
      refine Ro.qcF (by kernel_rfl) (by kernel_rfl) ?_
      repeat (first | (apply Ro.qat rfl rfl; focus (intro _; go_simp; first | done | rfl)) | (apply Ro.qd5 rfl rfl; focus (go_simp; first | done | rfl)) | (apply Ro.qby rfl; focus (go_simp; first | done | rfl)) | (apply Ro.qbs rfl rfl; (focus (go_simp; first | done | rfl | exact ⟨rfl, rfl⟩)); (focus (first | exact qkv _ (by omega) _))))
      refine Ro.qbJ ?_
      generalize hX : Gf.tame px = X at tx
      generalize hY : Gf.tame py = Y at ty
      have HX := qh hX
      have HY := qh hY
      clear hX hY
      go_upto_region 14 with fail
      refine Ro.qcF (by kernel_rfl) (by kernel_rfl) ?_
      repeat (first | (apply Ro.qat rfl rfl; focus (intro _; go_simp; first | done | rfl)) | (apply Ro.qd5 rfl rfl; focus (go_simp; first | done | rfl)) | (apply Ro.qby rfl; focus (go_simp; first | done | rfl)) | (apply Ro.qbs rfl rfl; (focus (go_simp; first | done | rfl | exact ⟨rfl, rfl⟩)); (focus (first | exact qkA _ _ (by omega) (by omega) _))))
      refine Ro.qbJ ?_
      have v1 := Gf.qfk vx X
      have v2 := Gf.qfk vy Y
      generalize hX : Gf.push vx X = VX at v1
      generalize hY : Gf.push vy Y = VY at v2
      have HVX := qh hX
      have HVY := qh hY
      clear hX hY
      go_upto_region 15 with fail
      refine Ro.qcF (by kernel_rfl) (by kernel_rfl) ?_
      repeat (first | (apply Ro.qat rfl rfl; focus (intro _; go_simp; first | done | rfl)) | (apply Ro.qd5 rfl rfl; focus (go_simp; first | done | rfl)) | (apply Ro.qby rfl; focus (go_simp; first | done | rfl)) | (apply Ro.qbs rfl rfl; (focus (go_simp; first | done | rfl | exact ⟨rfl, rfl⟩)); (focus (first | exact qgx _ _ (by omega) (by omega) _))))
      refine Ro.qbJ ?_
      have m1 := Gf.qbZ x VX
      have m2 := Gf.qbZ y VY
      generalize hX : Gf.move x VX = NX at m1
      generalize hY : Gf.move y VY = NY at m2
      have HNX := qh hX
      have HNY := qh hY
      clear hX hY
      by_cases hcool : 0 < cool
      · go_wp2
        go_roundg (8 - (k + 1))
        case measure => omega
        case rel =>
         refine ⟨k + 1, by omega, rfl, by go_num, ?_⟩
         have e := Gm.qjD (p := ps k) (n := (Gm.ph1 ps g k).2.length) (i := k) (s := (Gm.ph1 ps g k).1 k) (by rw [<- SS.out]) (by rw [<- SS.out]; exact hcool)
         have hq := qgh (Bi := w.heap.size + 1) (Br := w.heap.size + 1 + 1) (Bn := Bn) hlt rfl HBB.out HOO.out HII.out HRR.out hbH.out (by have := hBnw; omega) (by have := hBnw; omega) (by have := hBnw; omega) ⟨true, NX, NY, VX, VY, cool - 1, score⟩ (by rw [e.1, <- SS.out, <- PP.out, <- HNX.out, <- HNY.out, <- HVX.out, <- HVY.out, <- HX.out, <- HY.out]; rfl) e.2
         exact ((((hq.alloc _).alloc _).drew).drew).drew
      · have hcool0 : cool = 0 := by omega
        subst hcool0
        have hbit : bits .and .u8 pb 1 = pb % 2 := by
         obtain ⟨b, rfl⟩ : ∃ b : Nat, pb = b := ⟨pb.toNat, by omega⟩
         rw [show (1 : Int) = ((1 : Nat) : Int) from rfl, u8_and_nat b 1 (by omega) (by omega), nat_mask1]
         rfl
        by_cases hsh : pb % 2 = 1 /\ m < 32
        · have hm32 : decide ((m : Int) < 32) = true := decide_eq_true (by omega)
          have hb1 : (pb % 2 == 1) = true := by simpa using hsh.1
          have hm31 : m < 32 := hsh.2
          have HYES := qh (show Gm.qcz ⟨px, py, pb⟩ m ⟨true, x, y, vx, vy, 0, score⟩ = true by unfold Gm.qcz; simp; omega)
          obtain ⟨AX, hAX⟩ : ∃ AX, AX = Gf.aimx X Y := ⟨_, rfl⟩
          obtain ⟨AY, hAY⟩ : ∃ AY, AY = Gf.aimy Y := ⟨_, rfl⟩
          have cA := fun W => qh (qmw X Y pb (by omega) (by omega) p3 W)
          rw [<- hAX, <- hAY] at cA
          have HAX := qh hAX
          have HAY := qh hAY
          have MM2 := qh MM.out
          clear hsh hAX hAY
          go_wp2_with (first | (go_at_call 64; ((with_reducible refine ((cA _).out).mono ?_); rintro e w1 ⟨rfl, hb1⟩; have sB := qh ((((((Box.made wr 29 #[.bool true, .int .i32 NX, .int .i32 NY, .int .i32 VX, .int .i32 VY, .int .i64 0, .int .i64 score]).alloc (.cells #[.int .i8 X, .int .i8 Y, .int .u8 pb] 48)).drew).drew).drew).below hb1 (by simp <;> omega)); have nB := qh ((((((HBB.out.alloc (.cells #[.bool true, .int .i32 NX, .int .i32 NY, .int .i32 VX, .int .i32 VY, .int .i64 0, .int .i64 score] 29)).alloc (.cells #[.int .i8 X, .int .i8 Y, .int .u8 pb] 48)).drew).drew).drew).below hb1 (by simp <;> omega)); have iB := qh ((((((HII.out.alloc (.cells #[.bool true, .int .i32 NX, .int .i32 NY, .int .i32 VX, .int .i32 VY, .int .i64 0, .int .i64 score] 29)).alloc (.cells #[.int .i8 X, .int .i8 Y, .int .u8 pb] 48)).drew).drew).drew).below hb1 (by simp <;> omega)); have rB := qh ((((((HRR.out.alloc (.cells #[.bool true, .int .i32 NX, .int .i32 NY, .int .i32 VX, .int .i32 VY, .int .i64 0, .int .i64 score] 29)).alloc (.cells #[.int .i8 X, .int .i8 Y, .int .u8 pb] 48)).drew).drew).drew).below hb1 (by simp <;> omega)); have oB := qh (own_below (((((HOO.out.alloc (.cells #[.bool true, .int .i32 NX, .int .i32 NY, .int .i32 VX, .int .i32 VY, .int .i64 0, .int .i64 score] 29)).alloc (.cells #[.int .i8 X, .int .i8 Y, .int .u8 pb] 48)).drew).drew).drew) hb1 (Nat.le_refl _)); have oM := qh (show w1.ownsRow w.heap.size 72 6 (.slice A1 m c1) m (Gm.qab (Gm.ph1 ps g k).2) from (by rw [MM2.out]; exact oB.out)); have nM := qh (show Box w1 Bn 33 (Gm.cells { g with ship := (Gm.ph1 ps g k).1 } (.slice A1 m c1)) from (by rw [MM2.out]; exact nB.out)); have bB := qh ((((((hbH.out.alloc (hbH.out.size) (.cells #[.bool true, .int .i32 NX, .int .i32 NY, .int .i32 VX, .int .i32 VY, .int .i64 0, .int .i64 score] 29)).alloc (by simp; have := hbH.out.size; omega) (.cells #[.int .i8 X, .int .i8 Y, .int .u8 pb] 48)).drew).drew).drew).trans (hb1.mono (by simp; have := hbH.out.size; omega))); have z1 : wr.heap.size + 1 < w1.heap.size := (by have := hb1.size; simp at this; omega); have sc := sB.out.cell; have nc := (nM.out.cell 58).trans K58.out; have nl := nM.out.lt; clear hb1)) | ((with_reducible refine qcn (x := .tmp 102) (y := .tmp 111) (t := 31) (e := 72) (size := 6) (bytes := 32) rfl rfl Tryz.underlying31 hI.out hZ.out hS.out hY.out rfl (by decide) ?_); refine qdJ.mk rfl (oM.out.alloc _) (qdQ w1 72 ⟨k, NX, NY, AX, AY, 24⟩) (qbA _) (by unfold maxLen; omega) (by omega) (by have := bB.out.size; simp; omega) ?_; intro A2 k2 w2 own2 hg2; have sB2 := qb9 sB.out oM.out (by decide) hg2; have nB2 := qb9 nM.out oM.out (by decide) hg2; have iB2 := qh (qb9 iB.out oM.out (by decide) hg2); have rB2 := qh (qb9 rB.out oM.out (by decide) hg2); have bB2 := qh ((bB.out.alloc bB.out.size _).grown hg2 (by have := bB.out.size; simp; omega) (fun kk hk => (oM.out.lt kk hk).1)); have sc2 := sB2.cell; have sf2 := sB2.free; have sl2 := sB2.lt; have nc2 := nB2.cell; have nf2 := nB2.free; have nl2 := nB2.lt; have SB2 := qh sB2; have NB2 := qh nB2; have OB2 := qh own2; have q0 := K0.out; have q1 := K1.out; have q2 := K2.out; have q3 := K3.out; have q4 := K4.out; have q5 := K5.out; have q6 := K6.out; have q58 := K58.out; clear own2 hg2 sB2 nB2 sc nc))
          go_roundg (8 - (k + 1))
          case measure => omega
          case rel =>
           refine ⟨k + 1, by omega, rfl, by go_num, ?_⟩
           have e := Gm.qjB (p := ps k) (n := m) (i := k) (s := (Gm.ph1 ps g k).1 k) (by rw [<- SS.out]) (by rw [<- SS.out]) (by rw [<- SS.out, <- PP.out]; exact HYES.out)
           exact qlZ hlt MM.out ⟨k, NX, NY, AX, AY, 24⟩ NB2.out OB2.out iB2.out rB2.out SB2.out bB2.out (by omega) (by omega) (by omega) (by omega) (by omega) (by omega) (by omega) ⟨true, NX, NY, VX, VY, 10, score⟩ (.int .i64 10)
            (by rw [e.1, <- SS.out, <- PP.out, <- HNX.out, <- HNY.out, <- HVX.out, <- HVY.out, <- HX.out, <- HY.out]; rfl)
            (by rw [e.2, <- SS.out, <- PP.out, HAX.out, HAY.out, <- HNX.out, <- HNY.out, <- HVX.out, <- HVY.out, <- HX.out, <- HY.out]; rfl)
        · have HNO := qh (show Gm.qcz ⟨px, py, pb⟩ m ⟨true, x, y, vx, vy, 0, score⟩ = false by
           unfold Gm.qcz; simp; intro h; omega)
          have hfin : ∀ w', w' = (((stored wr Bn k ⟨true, NX, NY, VX, VY, 0, score⟩).alloc (.cells #[.bool true, .int .i32 NX, .int .i32 NY, .int .i32 VX, .int .i32 VY, .int .i64 0, .int .i64 score] 29)).alloc (.cells #[.int .i8 X, .int .i8 Y, .int .u8 pb] 48)).drew.drew.drew -> qe5 ps g w w' (w.heap.size + 1) (w.heap.size + 1 + 1) Bn (k + 1) := fun w' hw' => by
           subst hw'
           have e := Gm.qjC (p := ps k) (n := (Gm.ph1 ps g k).2.length) (i := k) (s := (Gm.ph1 ps g k).1 k) (by rw [<- SS.out]) (by rw [<- SS.out]) (by rw [<- SS.out, <- PP.out, <- MM.out]; exact HNO.out)
           have hq := qgh (Bi := w.heap.size + 1) (Br := w.heap.size + 1 + 1) (Bn := Bn) hlt rfl HBB.out HOO.out HII.out HRR.out hbH.out (by omega) (by omega) (by omega) ⟨true, NX, NY, VX, VY, 0, score⟩ (by rw [e.1, <- SS.out, <- PP.out, <- HNX.out, <- HNY.out, <- HVX.out, <- HVY.out, <- HX.out, <- HY.out]; rfl) e.2
           exact ((((hq.alloc _).alloc _).drew).drew).drew
          have HF := qh hfin
          clear hfin
          by_cases hodd : pb % 2 = 1
          · have hm32 : decide ((m : Int) < 32) = false := decide_eq_false (by omega)
            have hb1 : (pb % 2 == 1) = true := by simpa using hodd
            clear hsh hodd
            go_wp2
            go_roundg (8 - (k + 1))
            case measure => omega
            case rel => exact ⟨k + 1, by omega, rfl, by go_num, HF.out _ rfl⟩
          · have hb1 : (pb % 2 == 1) = false := by simpa using hodd
            clear hsh hodd
            go_wp2
            go_roundg (8 - (k + 1))
            case measure => omega
            case rel => exact ⟨k + 1, by omega, rfl, by go_num, HF.out _ rfl⟩
  · have hk' : k = 8 := by omega
    subst hk'
    obtain ⟨⟨A1, c1, hB, hO⟩, hI1, hR1, hb⟩ := hR
    have way := Gm.qiq (ps := ps) hg 8 (Nat.le_refl _)
    obtain ⟨F, hF⟩ : ∃ F, F = (Gm.ph1 ps g 8).1 := ⟨_, rfl⟩
    obtain ⟨l, hl⟩ : ∃ l, l = (Gm.ph1 ps g 8).2 := ⟨_, rfl⟩
    rw [<- hF, <- hl] at way
    rw [<- hF, <- hl] at hB
    rw [<- hl] at hO
    obtain ⟨wships, wshots, wlen⟩ := way
    have way0 : Gm.Way2 ⟨g.dice, F, []⟩ := ⟨wships, fun t ht => (by cases ht), hd⟩
    have hS0 := qh (show qch g l ⟨g.dice, F, []⟩ A1 c1 w wr (w.heap.size + 1 + 1) Bn wr.heap.size (.slice none 0 0) from
     ⟨hB, Lies.owned hO, ⟨none, 0, rfl, World.ownsRow_nil _ _ _ _⟩, hR1, hb, Nat.le_refl _⟩)
    have hBnl := hB.lt
    have FF := qh hF
    have LL := qh hl
    generalize hBl : wr.heap.size = Bl at hBnl
    rw [hBl] at hS0
    clear hF hl hB hO hI1 hR1 hb hBl
    go_wp2
    go_loopg [12, 13] l.length (fun gg s12 i w' => ∃ j : Nat, j <= l.length /\ gg = l.length - j /\ i = .int .i64 j /\ qch g l (Gm.ph2 ⟨g.dice, F, []⟩ (l.take j)) A1 c1 w w' (w.heap.size + 1 + 1) Bn Bl s12)
    case atStart => exact ⟨0, by omega, rfl, rfl, hS0.out⟩
    case round =>
     obtain ⟨j, hj, rfl, rfl, hR⟩ := hrel
     clear hS0
     have HR := qh hR
     obtain ⟨hB, hL, ⟨A2, c2, e12, hO⟩, hR1, hb, hsz⟩ := hR
     subst e12
     have hcr := hB.cell
     have hfB := hB.free
     have hlB := hB.lt
     have c58 := Gm.qaZ { g with dice := (Gm.ph2 ⟨g.dice, F, []⟩ (l.take j)).dice, ship := (Gm.ph2 ⟨g.dice, F, []⟩ (l.take j)).ship } (.slice A1 l.length c1)
     by_cases hlt : j < l.length
     · have hjl : (j : Int) < (l.length : Int) := by omega
       obtain ⟨way2, len2⟩ := Gm.qgD way0 wshots j hj
       have hsn := qh (Gm.qfY ⟨g.dice, F, []⟩ l j hlt)
       obtain ⟨ad, rfl, hbl, a0, a1, a2, a3, a4, a5⟩ := qco hL rfl j hlt
       have oks := wshots _ (List.getElem_mem hlt)
       obtain ⟨s, hs⟩ : ∃ s, s = l[j] := ⟨_, rfl⟩
       rw [<- hs] at a0 a1 a2 a3 a4 a5 oks
       have SS := qh hs
       generalize hst : Gm.ph2 ⟨g.dice, F, []⟩ (l.take j) = st at *
       obtain ⟨owner, x, y, vx, vy, left⟩ := s
       have OKS := qh oks
       obtain ⟨o1, o2, o3, o4, o5, o6, o7, o8⟩ := oks
       simp only [Gm.inF, Gm.slow] at o1 o2 o3 o4 o5 o6 o7 o8
       dsimp only at a0 a1 a2 a3 a4 a5
       have hsub : IntKind.i64.wrap (left - 1) = left - 1 := by rw [IntKind.wrap_i64]; omega
       have HSUB := qh hsub
       have HBB := qh hB
       have HOO := qh hO
       clear hsub hs hB hO hL hR1 hb hbl
       go_upto_region 28 with fail
       have hsub := HSUB.out
       refine Ro.qcF (by kernel_rfl) (by kernel_rfl) ?_
       repeat (first | (apply Ro.qat rfl rfl; focus (intro _; go_simp; first | done | rfl)) | (apply Ro.qd5 rfl rfl; focus (go_simp; first | done | rfl)) | (apply Ro.qby rfl; focus (go_simp; first | done | rfl)) | (apply Ro.qbs rfl rfl; (focus (go_simp; first | done | rfl | exact ⟨rfl, rfl⟩)); (focus (first | exact qgx _ _ (by omega) (by omega) _))))
       refine Ro.qbJ ?_
       clear hsub
       have m1 := Gf.qbZ x vx
       have m2 := Gf.qbZ y vy
       generalize hX : Gf.move x vx = NX at m1
       generalize hY : Gf.move y vy = NY at m2
       have HNX := qh hX
       have HNY := qh hY
       clear hX hY
       by_cases hl1 : left = 1
       · subst hl1
         go_wp2
         go_roundg (l.length - (j + 1))
         case measure => omega
         case rel =>
          refine ⟨j + 1, by omega, rfl, by go_num, ?_⟩
          have e : Gm.ph2 ⟨g.dice, F, []⟩ (l.take (j + 1)) = st := by
           rw [hsn.out, <- SS.out]; unfold Gm.qec; rw [if_pos (by show (1 : Int) - 1 = 0; rfl)]
          rw [e]
          exact (HR.out.alloc _).drew
       · have hl0 : (left - 1 == 0) = false := by simp; omega
         have hfly : Gm.fly ⟨owner, x, y, vx, vy, left⟩ = ⟨owner, NX, NY, vx, vy, left - 1⟩ := by rw [<- HNX.out, <- HNY.out]; rfl
         have hft := Gm.qqu OKS.out
         rw [hfly] at hft
         have cH := fun W => qh (qmq { g with dice := st.dice, ship := st.ship } (.slice (some ad) l.length c1) ⟨owner, NX, NY, vx, vy, left - 1⟩ W (fun i hi => (way2.qbV i hi).ty) hft)
         simp only [Gm.Shot.cells] at cH
         have hbd := Gm.qn2 st.ship ⟨owner, NX, NY, vx, vy, left - 1⟩
         have HFLY := qh hfly
         obtain ⟨H, hH⟩ : ∃ H, H = Gm.hit st.ship ⟨owner, NX, NY, vx, vy, left - 1⟩ := ⟨_, rfl⟩
         rw [<- hH] at hbd
         have hcH : ∀ W, Hid (Calls Tryz.prog 65 #[.agg (Gm.cells { g with dice := st.dice, ship := st.ship } (.slice (some ad) l.length c1)), .agg #[.int .i64 owner, .int .i32 NX, .int .i32 NY, .int .i32 vx, .int .i32 vy, .int .i64 (left - 1)]] W fun e w' => e = .returned (.int .i64 H) /\ Below W.heap.size W w') := fun W => by rw [hH]; exact cH W
         have HH := qh hH
         have GB := qh (HBB.out.alloc (.cells #[.int .i64 owner, .int .i32 NX, .int .i32 NY, .int .i32 vx, .int .i32 vy, .int .i64 (left - 1)] 72)).drew
         have n32 : st.left.length <= 32 := by have : (Gm.St.left ⟨g.dice, F, []⟩).length = 0 := rfl; omega
         clear hfly hft cH hH
         rcases hbd with hno | ⟨kh, hyes, hkh, hhk⟩
         · subst hno
           go_wp2_with (first | ((with_reducible refine qaG rfl rfl ?_); apply qaL.mk rfl; exact GB.out) | (go_at_call 65; ((with_reducible refine ((hcH _).out).mono ?_); rintro e w1 ⟨rfl, hb1⟩; have s1 := qh ((((Box.made _ 72 #[.int .i64 owner, .int .i32 NX, .int .i32 NY, .int .i32 vx, .int .i32 vy, .int .i64 (left - 1)]).drew)).below hb1 (by simp)); have on1 := qh (((HR.out.alloc (.cells #[.int .i64 owner, .int .i32 NX, .int .i32 NY, .int .i32 vx, .int .i32 vy, .int .i64 (left - 1)] 72)).drew).on hb1); have oM := qh (own_below ((HOO.out.alloc (.cells #[.int .i64 owner, .int .i32 NX, .int .i32 NY, .int .i32 vx, .int .i32 vy, .int .i64 (left - 1)] 72)).drew) hb1 (Nat.le_refl _)); have sc := s1.out.cell; have sl := s1.out.lt; clear hb1)) | ((with_reducible refine qcn (x := .tmp 155) (y := .tmp 157) (t := 31) (e := 72) (size := 6) (bytes := 32) rfl rfl Tryz.underlying31 hI.out hZ.out hS.out hY.out rfl (by decide) ?_); refine qdJ.mk rfl (oM.out.alloc _) (qdQ w1 72 ⟨owner, NX, NY, vx, vy, left - 1⟩) (qbA _) (by unfold maxLen; omega) (by omega) (by have := on1.out.size; simp; omega) ?_; intro A3 k3 w2 own2 hg2; have SH2 := qh (qgg on1.out oM.out own2 hg2 (by omega)); clear own2 hg2 sc))
           go_roundg (l.length - (j + 1))
           case measure => omega
           case rel =>
            refine ⟨j + 1, by omega, rfl, by go_num, ?_⟩
            have e : Gm.ph2 ⟨g.dice, F, []⟩ (l.take (j + 1)) = { st with left := st.left ++ [⟨owner, NX, NY, vx, vy, left - 1⟩] } := by
             rw [hsn.out, <- SS.out]; unfold Gm.qec
             rw [HFLY.out, if_neg (by dsimp only; omega), if_pos (by rw [<- HH.out]; decide)]
            rw [e]
            exact SH2.out
         · subst hyes
           have hk0 : ¬ (kh : Int) < 0 := by omega
           have hk8 : (kh : Int) < 8 := by omega
           have hdice := way2.dice
           have hoks := fun i hi => (way2.qbV i hi).2.2.2.2.2.2
           obtain ⟨o, rfl⟩ : ∃ o : Nat, owner = (o : Int) := ⟨owner.toNat, by omega⟩
           have ho : o < 8 := by omega
           have ho8 : (o : Int) < 8 := by omega
           obtain ⟨X, hX⟩ : ∃ X, X = Gm.qjt st.dice := ⟨_, rfl⟩
           obtain ⟨Y, hY⟩ : ∃ X, X = Gm.qjs st.dice := ⟨_, rfl⟩
           obtain ⟨D, hD⟩ : ∃ X, X = Gm.qeM st.dice := ⟨_, rfl⟩
           have cP : ∀ W, Hid (Calls Tryz.prog 60 #[.int .u64 st.dice] W fun e w' => e = .returned (.tuple #[.int .i32 X, .int .i32 Y, .int .u64 D]) /\ W = w') := fun W => qh (by rw [hX, hY, hD]; exact qfz st.dice hdice W)
           obtain ⟨t, ht⟩ : ∃ t, t = st.ship kh := ⟨_, rfl⟩
           have e1 := Gm.qbC { g with dice := st.dice, ship := st.ship } (.slice (some ad) l.length c1)
           have q0 := (Gm.qae { g with dice := st.dice, ship := st.ship } (.slice (some ad) l.length c1) kh 0 hkh (by omega)).trans (by rw [ht]; rfl : _ = some (.bool t.on))
           have q1 := (Gm.qae { g with dice := st.dice, ship := st.ship } (.slice (some ad) l.length c1) kh 1 hkh (by omega)).trans (by rw [ht]; rfl : _ = some (.int .i32 t.x))
           have q2 := (Gm.qae { g with dice := st.dice, ship := st.ship } (.slice (some ad) l.length c1) kh 2 hkh (by omega)).trans (by rw [ht]; rfl : _ = some (.int .i32 t.y))
           have q3 := (Gm.qae { g with dice := st.dice, ship := st.ship } (.slice (some ad) l.length c1) kh 3 hkh (by omega)).trans (by rw [ht]; rfl : _ = some (.int .i32 t.vx))
           have q4 := (Gm.qae { g with dice := st.dice, ship := st.ship } (.slice (some ad) l.length c1) kh 4 hkh (by omega)).trans (by rw [ht]; rfl : _ = some (.int .i32 t.vy))
           have q5 := (Gm.qae { g with dice := st.dice, ship := st.ship } (.slice (some ad) l.length c1) kh 5 hkh (by omega)).trans (by rw [ht]; rfl : _ = some (.int .i64 t.cool))
           have q6 := (Gm.qae { g with dice := st.dice, ship := st.ship } (.slice (some ad) l.length c1) kh 6 hkh (by omega)).trans (by rw [ht]; rfl : _ = some (.int .i64 t.score))
           simp only [Nat.add_zero] at q0
           have HX := qh hX
           have HY := qh hY
           have HD := qh hD
           have HTT := qh ht
           have HOKS := qh hoks
           have BNL := qh (show Bn < wr.heap.size from HBB.out.lt)
           clear hX hY hD ht hoks hdice hhk
           go_upto_region 36 with (first | ((with_reducible refine qaG rfl rfl ?_); apply qaL.mk rfl; exact GB.out) | (go_at_call 60; ((with_reducible refine ((cP _).out).mono ?_); rintro e w6 ⟨rfl, rfl⟩)) | (go_at_call 65; ((with_reducible refine ((hcH _).out).mono ?_); rintro e w5 ⟨rfl, hb1⟩; have S1 := qh ((((Box.made wr 72 #[.int .i64 o, .int .i32 NX, .int .i32 NY, .int .i32 vx, .int .i32 vy, .int .i64 (left - 1)]).drew)).below hb1 (by simp)); have H1 := qh (((HR.out.alloc (.cells #[.int .i64 o, .int .i32 NX, .int .i32 NY, .int .i32 vx, .int .i32 vy, .int .i64 (left - 1)] 72)).drew).on hb1); have G1 := qh (GB.out.below hb1 GB.out.lt); have gc := G1.out.cell; have gf := G1.out.free; have gl := G1.out.lt; clear hb1)))
           have hF0 : ∃ FN, FN = Gm.upd st.ship kh ⟨true, X, Y, 0, 0, 0, t.score⟩ := ⟨_, rfl⟩
           obtain ⟨FN, hF⟩ := hF0
           have hgen : ∀ W : World, W = stored (w5.setCell ⟨Bn, 1, none⟩ (.int .u64 D)) Bn kh ⟨true, X, Y, 0, 0, 0, t.score⟩ -> Box W Bn 33 (Gm.cells { g with dice := D, ship := FN } (.slice (some ad) l.length c1)) /\ Box W wr.heap.size 72 #[.int .i64 o, .int .i32 NX, .int .i32 NY, .int .i32 vx, .int .i32 vy, .int .i64 (left - 1)] /\ (∀ b, b ≠ Bn -> W.heap[b]? = w5.heap[b]?) /\ Below Bn w5 W := fun W hW => by
            subst hW
            have nes : wr.heap.size ≠ Bn := by have := BNL.out; omega
            refine ⟨?_, qcD (S1.out.far nes _) nes _, fun b hb => (qem _ b hb).trans (heap_setCell_other _ _ b _ hb), qcU ((Below.refl Bn w5).setCell (p := ⟨Bn, 1, none⟩) (Nat.le_refl Bn) _) (Nat.le_refl Bn) _⟩
            rw [hF]
            exact qdF (g := { g with dice := D, ship := st.ship }) (qf6 G1.out D) hkh _
           obtain ⟨W2, hW2⟩ : ∃ W2, W2 = stored (w5.setCell ⟨Bn, 1, none⟩ (.int .u64 D)) Bn kh ⟨true, X, Y, 0, 0, 0, t.score⟩ := ⟨_, rfl⟩
           have hh2 := hgen W2 hW2
           simp only [stored] at hW2
           rw [<- hW2]
           obtain ⟨g2, s2, hk2, hb2⟩ := hh2
           have hsF : ∀ i, i < 8 -> 0 <= (FN i).score /\ (FN i).score <= 1073741824 := fun i hi => by
            have h1 := HOKS.out i hi
            have h2 := HOKS.out kh hkh
            rw [hF]; unfold Gm.upd; split
            · dsimp only; rw [HTT.out]; exact h2.2
            · exact h1.2
           have sco := hsF o ho
           have r0 := Gm.qae { g with dice := D, ship := FN } (.slice (some ad) l.length c1) o 0 ho (by omega)
           have r6 := Gm.qae { g with dice := D, ship := FN } (.slice (some ad) l.length c1) o 6 ho (by omega)
           simp only [Gm.Ship.cells, List.getElem?_cons_zero, List.getElem?_cons_succ, Nat.add_zero] at r0 r6
           have FH := qh hF
           have hsco := qh (fun u => (show Box (W2.setCell ⟨Bn, 2 + o * 7 + 6, none⟩ (.int .i64 u)) Bn 33 (Gm.cells { g with dice := D, ship := Gm.upd FN o { FN o with score := u } } (.slice (some ad) l.length c1)) from by
            have h := g2.put (2 + o * 7 + 6) (.int .i64 u)
            have e := qi5 { g with dice := D, ship := FN } (.slice (some ad) l.length c1) o (FN o) ho u
            dsimp only at e
            rw [Gm.qdX] at e
            rw [e] at h
            exact h))
           have G2 := qh g2
           have K2 := qh hk2
           have B2 := qh hb2
           have gc := g2.cell
           have gf := g2.free
           have gl := g2.lt
           have s0 := s2.cell
           have E1 := qh (show ∀ FN', (FN' = Gm.more FN o) -> Gm.ph2 ⟨g.dice, F, []⟩ (l.take (j + 1)) = ⟨D, FN', st.left⟩ from fun FN' hF' => by
            rw [hsn.out, <- SS.out]; unfold Gm.qec
            rw [HFLY.out, if_neg (by dsimp only; omega), if_neg (by rw [<- HH.out]; omega), <- HH.out, HD.out, hF', FH.out, HX.out, HY.out, HTT.out]
            rfl)
           have FF2 : Hid (Gm.more FN o = if (FN o).on = true then Gm.upd FN o { FN o with score := min ((FN o).score + 1) 1073741824 } else FN) := qh rfl
           clear hgen hW2 hF g2 s2 hk2 hb2 S1 G1 hsF q0 q1 q2 q3 q4 q5 q6 e1 cP hcH GB
           cases hon : (FN o).on
           · rw [hon] at r0
             have HON := qh hon
             clear hon
             go_wp2
             go_roundg (l.length - (j + 1))
             case measure => omega
             case rel =>
              refine ⟨j + 1, by omega, rfl, by go_num, ?_⟩
              rw [E1.out FN (by rw [FF2.out, if_neg (by rw [HON.out]; simp)])]
              exact (H1.out.hit (st' := ⟨D, FN, st.left⟩) rfl G2.out (fun b hb _ => K2.out b hb) (by omega) B2.out (by omega))
           · rw [hon] at r0
             have HON := qh hon
             clear hon
             generalize (FN o).score = so at *
             have hwrap : IntKind.i64.wrap (so + 1) = so + 1 := by rw [IntKind.wrap_i64]; omega
             go_upto_region 37 with fail
             by_cases hms : so + 1 <= 1073741824
             · have MM := qh (Int.min_eq_left hms)
               refine Ro.qcF (by kernel_rfl) (by kernel_rfl) ?_
               repeat (first | (apply Ro.qat rfl rfl; focus (intro _; go_simp; first | done | rfl)) | (apply Ro.qd5 rfl rfl; focus (go_simp; first | done | rfl)) | (apply Ro.qby rfl; focus (go_simp; first | done | rfl)))
               refine Ro.qbJ ?_
               go_wp2
               go_roundg (l.length - (j + 1))
               case measure => omega
               case rel =>
                refine ⟨j + 1, by omega, rfl, by go_num, ?_⟩
                rw [E1.out (Gm.upd FN o { FN o with score := (so + 1) }) (by rw [FF2.out, if_pos HON.out, MM.out])]
                have hfin := H1.out.hit (st' := ⟨D, Gm.upd FN o { FN o with score := (so + 1) }, st.left⟩) rfl (hsco.out (so + 1)) (fun b hb _ => (heap_setCell_other _ _ b _ hb).trans (K2.out b hb)) (by omega) (B2.out.setCell (p := ⟨Bn, 2 + o * 7 + 6, none⟩) (Nat.le_refl Bn) _) (by omega)
                first | exact hfin.drew | exact hfin
             · have MM := qh (Int.min_eq_right (show (1073741824 : Int) <= so + 1 by omega))
               refine Ro.qcF (by kernel_rfl) (by kernel_rfl) ?_
               repeat (first | (apply Ro.qat rfl rfl; focus (intro _; go_simp; first | done | rfl)) | (apply Ro.qd5 rfl rfl; focus (go_simp; first | done | rfl)) | (apply Ro.qby rfl; focus (go_simp; first | done | rfl)))
               refine Ro.qbJ ?_
               go_wp2
               go_roundg (l.length - (j + 1))
               case measure => omega
               case rel =>
                refine ⟨j + 1, by omega, rfl, by go_num, ?_⟩
                rw [E1.out (Gm.upd FN o { FN o with score := 1073741824 }) (by rw [FF2.out, if_pos HON.out, MM.out])]
                have hfin := H1.out.hit (st' := ⟨D, Gm.upd FN o { FN o with score := 1073741824 }, st.left⟩) rfl (hsco.out 1073741824) (fun b hb _ => (heap_setCell_other _ _ b _ hb).trans (K2.out b hb)) (by omega) (B2.out.setCell (p := ⟨Bn, 2 + o * 7 + 6, none⟩) (Nat.le_refl Bn) _) (by omega)
                first | exact hfin.drew | exact hfin
     · have hjl : ¬ (j : Int) < (l.length : Int) := by omega
       have hje : j = l.length := by omega
       obtain ⟨st, hst⟩ : ∃ st, st = Gm.ph2 ⟨g.dice, F, []⟩ (l.take j) := ⟨_, rfl⟩
       rw [<- hst] at hB hO hcr c58 HR
       have e0 := Gm.qaS { g with dice := st.dice, ship := st.ship } (.slice A1 l.length c1)
       have hstep : Gm.step ps g = ⟨g.frame + 1, st.dice, st.ship, st.left⟩ := by
        rw [hst, hje, List.take_length, FF.out, LL.out]; rfl
       have g1 := qh (qjY (qcd hB (.slice A2 st.left.length c2)) (g.frame + 1))
       have g2 := qh ((hR1.far (p := ⟨Bn, 58, none⟩) (show w.heap.size + 1 + 1 ≠ Bn by omega) (.slice A2 st.left.length c2)).far (p := ⟨Bn, 0, none⟩) (show w.heap.size + 1 + 1 ≠ Bn by omega) (.int .i64 (g.frame + 1)))
       have ne : (Value.slice A2 st.left.length c2).ownBlock ≠ some Bn := hB.qaO hO (by decide)
       have ne2 : (Value.slice A2 st.left.length c2).ownBlock ≠ some (w.heap.size + 1 + 1) := hR1.qaO hO (by decide)
       have NE := qh ne
       have NE2 := qh ne2
       have HOO := qh hO
       have HBW := qh hb
       have HST := qh hstep
       rw [<- hst]
       clear hstep hst hB hO hR1 hb ne ne2 hL hje
       go_wp2_with (first | ((with_reducible refine qaG rfl rfl ?_); apply qaL.mk rfl; exact g1.out) | ((with_reducible refine qbe rfl rfl ?_); apply qbc.mk rfl rfl rfl; exact g2.out))
       refine bodyPost_ret (v := .tuple #[.agg (Gm.cells { g with frame := g.frame + 1, dice := st.dice, ship := st.ship } (.slice A2 st.left.length c2)), .int .i64 0]) ?_ ?_ ?_
       · exact results_cell_tmp (p := 4) (q := 5) rfl _ _ _ _ (Gm.cells { g with frame := g.frame + 1, dice := st.dice, ship := st.ship } (.slice A2 st.left.length c2)) _ rfl (Box.row g2.out _) Tryz.underlying33 rfl qbb
       · rfl
       · rw [HST.out]
         refine ⟨A2, c2, rfl, ?_, ?_, ?_⟩
         · exact Lies.owned (qbf (ownsRow_setCell_other (a := ⟨Bn, 0, none⟩) (ownsRow_setCell_other (a := ⟨Bn, 58, none⟩) HOO.out NE.out _) NE.out _) NE2.out _)
         · exact Typed.owned (qbf (ownsRow_setCell_other (a := ⟨Bn, 0, none⟩) (ownsRow_setCell_other (a := ⟨Bn, 58, none⟩) HOO.out NE.out _) NE.out _) NE2.out _)
         · exact Below.setRow' ((HBW.out.setCell (by show w.heap.size <= Bn; omega) _).setCell (by show w.heap.size <= Bn; omega) _) (by omega) _
theorem Typed.kept {w w' : World} {t : TypeId} {A : Option Addr} (h : Typed w t A) (hk : ∀ ad, A = some ad -> w'.heap[ad.block]? = w.heap[ad.block]?) : Typed w' t A := ⟨fun ad e => by
 obtain ⟨cs, fz, h1⟩ := h.is ad e
 exact ⟨cs, fz, (hk ad e).trans h1⟩⟩
theorem Typed.qpU {w : World} {t t' : TypeId} {A : Option Addr} {g : Nat} {cs : Array Value} (h : Typed w t A) (hB : Box w g t' cs) (hne : t ≠ t') : ∀ ad, A = some ad -> ad.block ≠ g := fun ad e eb => by
 obtain ⟨cs1, fz, h1⟩ := h.is ad e
 rw [eb, hB.is] at h1
 injection h1 with h1
 injection h1 with _ ht _
 exact hne ht.symm
structure AllU (w : World) (L : List Rg.St) (AO : Option Addr) (cO bs : Nat) (q : Rg.St) (X : World) : Prop where
 down : Below w.heap.size w X
 row : ∃ g cur, AO = some ⟨g, 0, none⟩ /\ w.heap.size <= g /\ g ≠ bs /\ Box X g 40 cur /\ X.ownsRow w.heap.size 40 76 (.slice AO L.length cO) L.length (L.flatMap Rg.St.cells)
 sh : ∀ x ∈ L, Lies X X.heap.size 6 x.A x.g.qaa.length (Gm.qab x.g.qaa) /\ Typed X 72 x.A
 st : Box X bs 40 q.arr
 low : w.heap.size <= bs
 ne : 0 < L.length
 qs : Lies X X.heap.size 6 q.A q.g.qaa.length (Gm.qab q.g.qaa) /\ Typed X 72 q.A
section
variable {w : World} {L : List Rg.St} {AO : Option Addr} {cO bs : Nat} {q : Rg.St} {X X' : World}
theorem AllU.call (h : AllU w L AO cO bs q X) (hb : Below X.heap.size X X') : AllU w L AO cO bs q X' := by
 obtain ⟨g, cur, e, hg, hne, hB, ho⟩ := h.row
 exact ⟨h.down.trans (hb.mono h.down.size), ⟨g, cur, e, hg, hne, hB.below hb hB.lt, qfZ ho fun k ek => by
  subst e
  have e2 : some g = some k := ek
  injection e2 with e2
  subst e2
  exact hb.block _ hB.lt⟩, fun x hx => ⟨(h.sh x hx).1.call hb, (h.sh x hx).2.call hb⟩, h.st.below hb h.st.lt, h.low, h.ne, h.qs.1.call hb, h.qs.2.call hb⟩
theorem AllU.store (h : AllU w L AO cO bs q X) {x : Rg.St} (hx : Lies X X.heap.size 6 x.A x.g.qaa.length (Gm.qab x.g.qaa)) (ht : Typed X 72 x.A) : AllU w L AO cO bs x (X.setRow bs x.arr) := by
 obtain ⟨g, cur, e, hg, hne, hB, ho⟩ := h.row
 have hrow : ∀ {A : Option Addr} {l : List Gm.Shot}, Lies X X.heap.size 6 A l.length (Gm.qab l) -> Lies (X.setRow bs x.arr) (X.setRow bs x.arr).heap.size 6 A l.length (Gm.qab l) := fun hl => by
  obtain ⟨g, r, A, c⟩ := q
  exact hl.qbk rfl (show Box X bs 40 (Im.cells g (.slice A g.qaa.length c) r) from h.st) _
 exact ⟨Below.setRow' h.down h.low _, ⟨g, cur, e, hg, hne, ⟨(setRow_other X bs g _ hne).trans hB.is⟩, qfZ ho fun k ek => by
  subst e
  have e2 : some g = some k := ek
  injection e2 with e2
  subst e2
  exact setRow_other X bs _ _ hne⟩, fun y hy => ⟨hrow (h.sh y hy).1, (h.sh y hy).2.row h.st _⟩, h.st.row _, h.low, h.ne, hrow hx, ht.row h.st _⟩
theorem AllU.appended (h : AllU w L AO cO bs q X) {x : Rg.St} (hx : Lies X X.heap.size 6 x.A x.g.qaa.length (Gm.qab x.g.qaa)) (hxT : Typed X 72 x.A) (hn : L.length <= 1000) (ty : TypeId) :
 ∃ A' c' X', (Builtin.append_ #[42, 42] ty #[.slice AO L.length cO, .slice (some ⟨X.heap.size, 0, none⟩) 1 1]).run Tryz.prog (X.alloc (.cells x.arr 40)) = .ok (.slice A' (L.length + 1) c') X' /\ AllU w (L ++ [x]) A' c' bs q X' := by
 obtain ⟨i, hi, hz, hs, hby⟩ := qcV
 have hz76 : (Value.agg Im.zero).cells.size = 76 := Im.qar
 have kb := qac X (.cells x.arr 40)
 have h1 := h.call kb
 have B1 := Box.made X 40 x.arr
 have hx1 := hx.call kb
 have ht1 := hxT.call kb
 obtain ⟨Y, hY⟩ : ∃ Y, Y = X.alloc (.cells x.arr 40) := ⟨_, rfl⟩
 rw [<- hY] at h1 B1 hx1 ht1 ⊢
 obtain ⟨g, cur, e, hg, hne, hB, ho⟩ := h1.row
 obtain ⟨A', c', X', r, o, gr, h5⟩ := qeA (P := Tryz.prog) Y (ty := ty) Tryz.underlying42 hi hz hs rfl hz76 (by decide) ho (c := 1) (qfW B1) (qci x) (by unfold maxLen; omega) (by have := Nat.mul_le_mul (show L.length + 1 <= 1001 by omega) hby; omega) h1.down.size
 have eb : (Value.slice AO L.length cO).ownBlock = some g := by rw [e]; rfl
 have hoth : ∀ k, k < Y.heap.size -> k ≠ g -> X'.heap[k]? = Y.heap[k]? := fun k hk hkg => gr.block k hk (by rw [eb]; intro e; injection e with e; exact hkg e)
 have hkT : ∀ {A : Option Addr}, Typed Y 72 A -> ∀ ad, A = some ad -> X'.heap[ad.block]? = Y.heap[ad.block]? := fun hT ad ea => hoth _ (hT.lt ea) (hT.qpU hB (by decide) ad ea)
 have hd : Below w.heap.size w X' := h1.down.trans ⟨gr.os, gr.tape, gr.output, gr.size, fun k hk => hoth k (Nat.lt_of_lt_of_le hk h1.down.size) (by omega)⟩
 obtain ⟨g', cur', e', hg', hgl, hB'⟩ : ∃ g' cur', A' = some ⟨g', 0, none⟩ /\ w.heap.size <= g' /\ (g' = g \/ g' = Y.heap.size) /\ Box X' g' 40 cur' := by
  obtain ⟨_, ⟨q0, hq0⟩ | ⟨gq, _, cq, q0, hq1, hq, _⟩⟩ := id o
  · omega
  · injection q0 with q0
    have e3 : (Value.slice A' (L.length + 1) c').ownBlock = some gq := by rw [q0]; rfl
    refine ⟨gq, cq, q0, hq1, ?_, ⟨hq⟩⟩
    rcases h5 with h5 | h5
    · rw [e3, eb] at h5; injection h5 with h5; exact .inl h5
    · rw [e3] at h5; injection h5 with h5; exact .inr h5
 have hbs := h1.st.lt
 refine ⟨A', c', X', r, hd, ⟨g', cur', e', hg', by rcases hgl with rfl | rfl <;> omega, hB', ?_⟩, fun y hy => ?_, ⟨(hoth bs hbs (Ne.symm hne)).trans h1.st.is⟩, h1.low, by rw [List.length_append]; exact Nat.lt_of_lt_of_le h1.ne (Nat.le_add_right _ _), qba h1.qs.1 gr.size fun h0 ad ea => hkT h1.qs.2 ad ea, h1.qs.2.kept (hkT h1.qs.2)⟩
 · rw [List.length_append, List.flatMap_append, List.flatMap_cons, List.flatMap_nil, List.append_nil]
   exact o
 · rcases List.mem_append.1 hy with hy | hy
   · exact ⟨qba (h1.sh y hy).1 gr.size fun h0 ad ea => hkT (h1.sh y hy).2 ad ea, (h1.sh y hy).2.kept (hkT (h1.sh y hy).2)⟩
   · obtain rfl := List.mem_singleton.1 hy
     exact ⟨qba hx1 gr.size fun h0 ad ea => hkT ht1 ad ea, ht1.kept (hkT ht1)⟩
theorem AllU.begun {ty : TypeId} (x : Rg.St) (hb : Below w.heap.size w X) (st : Box X bs 40 x.arr) (hbs : w.heap.size <= bs) (hx : Lies X X.heap.size 6 x.A x.g.qaa.length (Gm.qab x.g.qaa)) (hxT : Typed X 72 x.A) :
 ∃ A' c' X', (Builtin.append_ #[42, 42] ty #[.slice none 0 0, .slice (some ⟨X.heap.size, 0, none⟩) 1 1]).run Tryz.prog (X.alloc (.cells x.arr 40)) = .ok (.slice A' 1 c') X' /\ AllU w [x] A' c' bs x X' := by
 obtain ⟨i, hi, hz, hs, hby⟩ := qcV
 have hz76 : (Value.agg Im.zero).cells.size = 76 := Im.qar
 have k1 := qac X (.cells x.arr 40)
 have B1 := Box.made X 40 x.arr
 obtain ⟨Y, hY⟩ : ∃ Y, Y = X.alloc (.cells x.arr 40) := ⟨_, rfl⟩
 rw [<- hY] at k1 B1 ⊢
 have hw := hb.trans (k1.mono hb.size)
 have ho : Y.ownsRow w.heap.size 40 76 (.slice none 0 0) 0 [] := ⟨rfl, .inl ⟨rfl, rfl⟩⟩
 obtain ⟨A', c', X', r, o, g, h5⟩ := qeA (P := Tryz.prog) Y (ty := ty) Tryz.underlying42 hi hz hs rfl hz76 (by decide) ho (c := 1) (qfW B1) (qci x) (by unfold maxLen; omega) (by omega) hw.size
 rw [Nat.zero_add] at r o h5
 rw [List.nil_append] at o
 have kb : Below Y.heap.size Y X' := ⟨g.os, g.tape, g.output, g.size, fun k hk => g.block k hk (by intro e; cases e)⟩
 have hx2 := (hx.call k1).call kb
 have ht2 := (hxT.call k1).call kb
 have hst := (st.below k1 st.lt).below kb (Nat.lt_of_lt_of_le st.lt k1.size)
 obtain ⟨_, ⟨q0, hq0⟩ | ⟨gq, _, cq, q0, hq1, hq, _⟩⟩ := id o
 · omega
 · injection q0 with q0
   have e3 : (Value.slice A' 1 c').ownBlock = some gq := by rw [q0]; rfl
   have hgq : gq = Y.heap.size := by
    rcases h5 with h5 | h5
    · rw [e3] at h5; cases h5
    · rw [e3] at h5; injection h5 with h5
   have h2 := st.lt
   have h3 := k1.size
   refine ⟨A', c', X', r, hw.trans (kb.mono hw.size), ⟨gq, cq, q0, hq1, by omega, ⟨hq⟩, ?_⟩, fun y hy => ?_, hst, hbs, Nat.one_pos, hx2, ht2⟩
   · have e1 : [x].flatMap Rg.St.cells = x.cells := by rw [List.flatMap_cons, List.flatMap_nil, List.append_nil]
     rw [e1]
     exact o
   · obtain rfl := List.mem_singleton.1 hy
     exact ⟨hx2, ht2⟩
theorem AllU.start {LP : qdG} (C : qhg LP) {X1 X2 : World} {Br Bm : Nat} {M : List Fd.S} {x : Rg.St} (h : AllU w L AO cO bs q X) (hp : P15 LP w Br M (fun j => w.heap.size <= j /\ j < X.heap.size) X1) (hb1 : Below X.heap.size X X1) (hx : x ∈ L) (hr : qa1 Bm [x] X2) (hb2 : Below X1.heap.size X1 X2) (hBm : X1.heap.size <= Bm) (hi : qbW (fun k => X1.heap.size <= k) Bm X2) : TwoX LP w Br Bm M L AO [x] X2 := by
 have hs1 := hb1.size
 have hsh : ∀ y ∈ L, ∀ ad, y.A = some ad -> (((w.heap.size <= ad.block /\ ad.block < X.heap.size) \/ (X1.heap.size <= ad.block /\ ad.block < X2.heap.size)) \/ ad.block < w.heap.size) /\ ad.block ≠ Bm := fun y hy ad e => by
  have := (h.sh y hy).2.lt e
  omega
 obtain ⟨g, cur, e, hg, hne, hB, ho⟩ := h.row
 have hgl := hB.lt
 obtain ⟨A, c, hbx, hrw, _, _⟩ := hr.box
 refine ⟨fun j => (w.heap.size <= j /\ j < X.heap.size) \/ (X1.heap.size <= j /\ j < X2.heap.size), qbd.more C.ob hp hb2, ((Lies.owned ho).call hb1).call hb2, fun ad ea => ?_, fun y hy => ((h.sh y hy).1.call hb1).call hb2, fun y hy _ ad ea => hsh y hy ad ea, hr, .inr ⟨hBm, hbx.lt⟩, ?_, fun y hy h0 ad ea => ?_⟩
 · rw [e] at ea
   injection ea with ea
   subst ea
   exact ⟨.inl ⟨hg, hgl⟩, by show g ≠ Bm; omega⟩
 · obtain ⟨A', n', c', e, hA⟩ := hi
   have k0 : X2.cell? ⟨Bm, 0, none⟩ = some (.slice A [x].length c) := hbx.cell 0
   rw [k0] at e
   injection e with e
   injection e with e1 e2 e3
   subst e1
   refine ⟨A, _, _, k0, fun ad ea => ?_⟩
   obtain ⟨ad', ea', hl⟩ := hrw.row.start (by simp)
   have hoff := qit hrw.row (u := .int .i64 x.g.frame) (by
    rw [List.flatMap_cons, List.flatMap_nil, List.append_nil]
    unfold Rg.St.cells
    rw [Array.getElem?_toList]
    exact x.first) (fun _ _ _ e => by cases e) hbx (by simp) ad ea
   rw [ea] at ea'
   injection ea' with ea'
   subst ea'
   exact ⟨.inl (.inr ⟨hA ad ea, hl⟩), hoff⟩
 · obtain rfl := List.mem_singleton.1 hy
   exact hsh y hx ad ea
end
theorem qoI (s t : Gm.Shot) (w : World) : (Op.equalIn 10000 72 (.agg s.cells.toArray) (.agg t.cells.toArray)).run Tryz.prog w = .ok (s.eqB t) w := by
 obtain ⟨a1, a2, a3, a4, a5, a6⟩ := s
 obtain ⟨b1, b2, b3, b4, b5, b6⟩ := t
 have h := ifs7 w (a1 == b1) (a2 == b2) (a3 == b3) (a4 == b4) (a5 == b5) (a6 == b6) true
 simp only [beq_iff_eq, Bool.and_true] at h
 simp only [Gm.Shot.cells]
 go_simp
 have e : (if True then Result.ok true w else Result.ok false w) = (Result.ok true w : Result Bool) := if_pos trivial
 rw [e] at h
 exact h
theorem qlk (s t : Gm.Shot) (w : World) : (binOp .neq 72 (.agg s.cells.toArray) (.agg t.cells.toArray)).run Tryz.prog w = .ok (.bool (!s.eqB t)) w := by
 simp only [binOp]
 simp [Op.equal, Op.maxDepth, qoI]
theorem qbu : (Tryz.prog.info? 30).map (·.size) = some 56 := by kernel_rfl
theorem qbH (g : Gm.G) (v : Value) : ∀ j u, (Gm.qax g.ship)[j]? = some u -> (Gm.cells g v)[2 + j]? = some u := fun j u hu => by
 have hj : j < 56 := by have := (List.getElem?_eq_some_iff.1 hu).1; rwa [Gm.qcA] at this
 rw [Gm.qey _ _ _ hj]; exact hu
def Ros.qdr (r q : Ros.R) : Bool := (List.range 8).all fun i => (r.peer i == q.peer i && r.gen i == q.gen i)
theorem Ros.qgo {r q : Ros.R} : Ros.qdr r q = true ↔ ∀ k, k < 8 -> r.peer k = q.peer k /\ r.gen k = q.gen k := by
 unfold Ros.qdr; rw [List.all_eq_true]
 exact ⟨fun h i hi => by simpa using h i (by simpa using hi), fun h i hi => by simpa using h i (by simpa using hi)⟩
theorem qnx (r q : Ros.R) (w : World) : (Op.equalIn 9999 36 (.agg (Ros.qbl r).toArray) (.agg (Ros.qbl q).toArray)).run Tryz.prog w = .ok (Ros.qdr r q) w := by
 cases hq : Tryz.prog.info? 35 with
 | none => have := qdj; simp [hq] at this
 | some j =>
  have hs : Tryz.prog.cellsOf 35 = 2 := by kernel_rfl
  rw [run_equalIn_array w 9998 _ _ Tryz.underlying36 hq, hs]
  rw [qcN w 9998 _ 2 _ _ (fun i => .agg (Ros.pair r i).toArray) (fun i => .agg (Ros.pair q i).toArray) (fun i => (r.peer i == q.peer i && r.gen i == q.gen i)) (List.range 8)
   (fun i hi => ⟨qgp r i (by simpa using hi) w, qgp q i (by simpa using hi) w, by rw [show (Ros.pair r i).toArray = #[.int .i64 (r.peer i), .int .i64 (r.gen i)] from rfl, show (Ros.pair q i).toArray = #[.int .i64 (q.peer i), .int .i64 (q.gen i)] from rfl, qpN]⟩)]
  rfl
theorem qnD (r q : Ros.R) (w : World) : (binOp .eql 38 (.agg (Ros.cells r)) (.agg (Ros.cells q))).run Tryz.prog w = .ok (.bool (r.version == q.version && Ros.qdr r q)) w := by
 have hs := qnx r q
 generalize Ros.qdr r q = B at *
 simp only [Ros.cells, Ros.qbl, Ros.pair, List.cons_append, List.nil_append] at hs ⊢
 generalize r.version = v
 generalize q.version = u
 generalize r.peer 0 = rp0 at *
 generalize r.peer 1 = rp1 at *
 generalize r.peer 2 = rp2 at *
 generalize r.peer 3 = rp3 at *
 generalize r.peer 4 = rp4 at *
 generalize r.peer 5 = rp5 at *
 generalize r.peer 6 = rp6 at *
 generalize r.peer 7 = rp7 at *
 generalize r.gen 0 = rg0 at *
 generalize r.gen 1 = rg1 at *
 generalize r.gen 2 = rg2 at *
 generalize r.gen 3 = rg3 at *
 generalize r.gen 4 = rg4 at *
 generalize r.gen 5 = rg5 at *
 generalize r.gen 6 = rg6 at *
 generalize r.gen 7 = rg7 at *
 generalize q.peer 0 = qp0 at *
 generalize q.peer 1 = qp1 at *
 generalize q.peer 2 = qp2 at *
 generalize q.peer 3 = qp3 at *
 generalize q.peer 4 = qp4 at *
 generalize q.peer 5 = qp5 at *
 generalize q.peer 6 = qp6 at *
 generalize q.peer 7 = qp7 at *
 generalize q.gen 0 = qg0 at *
 generalize q.gen 1 = qg1 at *
 generalize q.gen 2 = qg2 at *
 generalize q.gen 3 = qg3 at *
 generalize q.gen 4 = qg4 at *
 generalize q.gen 5 = qg5 at *
 generalize q.gen 6 = qg6 at *
 generalize q.gen 7 = qg7 at *
 by_cases e : v = u
 · subst e
   go_simp
   all_goals (cases B <;> simp)
 · have e2 : (v == u) = false := by simpa using e
   go_simp
   all_goals simp [e, e2]
theorem qky (g h : Gm.G) (A B : Option Addr) (n m c d : Nat) (w : World) (hn : n = g.qaa.length) (hm : m = h.qaa.length) (hr : Lies w w.heap.size 6 A n (Gm.qab g.qaa)) (hq : Lies w w.heap.size 6 B m (Gm.qab h.qaa))
 (n63 : n <= maxLen) (m63 : m <= maxLen) :
 Calls Tryz.prog 45 #[.agg (Gm.cells g (.slice A n c)), .agg (Gm.cells h (.slice B m d))] w fun e w' => (∃ v, e = .returned (.bool v) /\ (v = true ↔ Gm.Eq g h)) /\ Below w.heap.size w w' := by
 have n64 : (n : Int) <= 9223372036854775807 := by unfold maxLen at n63; omega
 have m64 : (m : Int) <= 9223372036854775807 := by unfold maxLen at m63; omega
 have hN : Hid (n = g.qaa.length) := qh hn
 have hM : Hid (m = h.qaa.length) := qh hm
 have b1 : Box ((w.alloc (.cells (Gm.cells g (.slice A n c)) 33)).alloc (.cells (Gm.cells h (.slice B m d)) 33)) w.heap.size 33 (Gm.cells g (.slice A n c)) := (Box.made _ _ _).alloc _
 have b2 : Box ((w.alloc (.cells (Gm.cells g (.slice A n c)) 33)).alloc (.cells (Gm.cells h (.slice B m d)) 33)) (w.heap.size + 1) 33 (Gm.cells h (.slice B m d)) := Box.qan _ _ _ (by simp)
 have ne : ∀ W, (binOp .neq 30 (.agg (Gm.qax g.ship).toArray) (.agg (Gm.qax h.ship).toArray)).run Tryz.prog W = .ok (.bool (!Gm.qc9 g.ship h.ship)) W := fun W => qnu _ _ W
 have g0 := Gm.qaS g (.slice A n c)
 have g1 := Gm.qbC g (.slice A n c)
 have g58 := Gm.qaZ g (.slice A n c)
 have h0 := Gm.qaS h (.slice B m d)
 have h1 := Gm.qbC h (.slice B m d)
 have h58 := Gm.qaZ h (.slice B m d)
 have hB1 := qh b1
 have hB2 := qh b2
 have HE := qh (show Gm.Eq g h -> g.frame = h.frame /\ g.dice = h.dice /\ Gm.qc9 g.ship h.ship = true /\ g.qaa = h.qaa from fun e => ⟨e.1, e.2.1, Gm.qep.2 e.2.2.1, e.2.2.2⟩)
 have HI := qh (show g.frame = h.frame /\ g.dice = h.dice /\ Gm.qc9 g.ship h.ship = true /\ g.qaa = h.qaa -> Gm.Eq g h from fun e => ⟨e.1, e.2.1, Gm.qep.1 e.2.2.1, e.2.2.2⟩)
 generalize Gm.qc9 g.ship h.ship = SE at *
 clear b1 b2 hn hm n63 m63
 by_cases e1 : g.frame = h.frame
 rotate_left
 · have x1 : (g.frame != h.frame) = true := by simpa using e1
   have hno := qh (show ¬ Gm.Eq g h from fun e => e1 (HE.out e).1)
   clear e1 hr hq
   have k1 := hB1.out.cell
   have k2 := hB2.out.cell
   go_enter Tryz.func45, Tryz.ntmps45
   go_wp2_with (first | (refine qap (by first | rfl | kernel_rfl | simp [Region.wanted, yielded]) (ty := 30) rfl rfl hB1.out _ (qbH _ _) Tryz.underlying30 rfl qbu ?_) | (refine qap (by first | rfl | kernel_rfl | simp [Region.wanted, yielded]) (ty := 30) rfl rfl hB2.out _ (qbH _ _) Tryz.underlying30 rfl qbu ?_))
   go_ret
   exact ⟨by first | exact ⟨false, rfl, by simp; exact hno.out⟩ | exact .inl ⟨rfl, hno.out⟩, qal _ _ _⟩
 have x1 : (g.frame != h.frame) = false := by simpa using e1
 by_cases e2 : g.dice = h.dice
 rotate_left
 · have x2 : (g.dice != h.dice) = true := by simpa using e2
   have hno := qh (show ¬ Gm.Eq g h from fun e => e2 (HE.out e).2.1)
   clear e1 e2 hr hq
   have k1 := hB1.out.cell
   have k2 := hB2.out.cell
   go_enter Tryz.func45, Tryz.ntmps45
   go_wp2_with (first | (refine qap (by first | rfl | kernel_rfl | simp [Region.wanted, yielded]) (ty := 30) rfl rfl hB1.out _ (qbH _ _) Tryz.underlying30 rfl qbu ?_) | (refine qap (by first | rfl | kernel_rfl | simp [Region.wanted, yielded]) (ty := 30) rfl rfl hB2.out _ (qbH _ _) Tryz.underlying30 rfl qbu ?_))
   go_ret
   exact ⟨by first | exact ⟨false, rfl, by simp; exact hno.out⟩ | exact .inl ⟨rfl, hno.out⟩, qal _ _ _⟩
 have x2 : (g.dice != h.dice) = false := by simpa using e2
 cases SE
 · have hno := qh (show ¬ Gm.Eq g h from fun e => by have := (HE.out e).2.2.1; cases this)
   clear e1 e2 hr hq
   have k1 := hB1.out.cell
   have k2 := hB2.out.cell
   go_enter Tryz.func45, Tryz.ntmps45
   go_wp2_with (first | (refine qap (by first | rfl | kernel_rfl | simp [Region.wanted, yielded]) (ty := 30) rfl rfl hB1.out _ (qbH _ _) Tryz.underlying30 rfl qbu ?_) | (refine qap (by first | rfl | kernel_rfl | simp [Region.wanted, yielded]) (ty := 30) rfl rfl hB2.out _ (qbH _ _) Tryz.underlying30 rfl qbu ?_))
   go_ret
   exact ⟨by first | exact ⟨false, rfl, by simp; exact hno.out⟩ | exact .inl ⟨rfl, hno.out⟩, qal _ _ _⟩
 by_cases e3 : n = m
 rotate_left
 · have x3 : ((n : Int) != (m : Int)) = true := by simp; omega
   have hno := qh (show ¬ Gm.Eq g h from fun e => by have h4 := (HE.out e).2.2.2; have := hN.out; have := hM.out; rw [h4] at *; omega)
   clear e1 e2 e3 hr hq
   have k1 := hB1.out.cell
   have k2 := hB2.out.cell
   go_enter Tryz.func45, Tryz.ntmps45
   go_wp2_with (first | (refine qap (by first | rfl | kernel_rfl | simp [Region.wanted, yielded]) (ty := 30) rfl rfl hB1.out _ (qbH _ _) Tryz.underlying30 rfl qbu ?_) | (refine qap (by first | rfl | kernel_rfl | simp [Region.wanted, yielded]) (ty := 30) rfl rfl hB2.out _ (qbH _ _) Tryz.underlying30 rfl qbu ?_))
   go_ret
   exact ⟨by first | exact ⟨false, rfl, by simp; exact hno.out⟩ | exact .inl ⟨rfl, hno.out⟩, qal _ _ _⟩
 subst e3
 have HF := qh (And.intro e1 e2)
 clear e1 e2
 have k1 := hB1.out.cell
 have k2 := hB2.out.cell
 go_enter Tryz.func45, Tryz.ntmps45
 go_wp2_with (first | (refine qap (by first | rfl | kernel_rfl | simp [Region.wanted, yielded]) (ty := 30) rfl rfl hB1.out _ (qbH _ _) Tryz.underlying30 rfl qbu ?_) | (refine qap (by first | rfl | kernel_rfl | simp [Region.wanted, yielded]) (ty := 30) rfl rfl hB2.out _ (qbH _ _) Tryz.underlying30 rfl qbu ?_))
 go_loopw [5] (fun i wr => ∃ k : Nat, k <= n /\ i = .int .i64 k /\ Box wr w.heap.size 33 (Gm.cells g (.slice A n c)) /\ Box wr (w.heap.size + 1) 33 (Gm.cells h (.slice B n d)) /\ Below w.heap.size w wr /\ ∀ j, j < k -> g.qaa[j]? = h.qaa[j]?) (fun i _ => n - (intOf i).toNat)
 case atStart => exact ⟨0, by omega, rfl, hB1.out, hB2.out, qal _ _ _, fun j hj => absurd hj (Nat.not_lt_zero j)⟩
 case round =>
  obtain ⟨k, hk, rfl, hB, hC, hb, hall⟩ := hrel
  have HALL := qh hall
  have hcr := hB.cell
  have hds := hC.cell
  clear hall
  by_cases hlt : k < n
  · have hkg : k < g.qaa.length := by have := hN.out; omega
    have hkh : k < h.qaa.length := by have := hM.out; omega
    obtain ⟨ad, rfl, hbl, a0, a1, a2, a3, a4, a5⟩ := qco (hr.below hb) hN.out k hkg
    obtain ⟨bd, rfl, hbm, c0, c1, c2, c3, c4, c5⟩ := qco (hq.below hb) hM.out k hkh
    have HS := qh (show Gm.Eq g h -> g.qaa[k]'hkg = h.qaa[k]'hkh from fun e => by
     have h4 := (HE.out e).2.2.2
     simp only [h4])
    have HT := qh (show g.qaa[k]'hkg = h.qaa[k]'hkh -> ∀ j, j < k + 1 -> g.qaa[j]? = h.qaa[j]? from fun e j hj => by
     by_cases ej : j = k
     · subst ej
       rw [List.getElem?_eq_getElem hkg, List.getElem?_eq_getElem hkh, e]
     · exact HALL.out j (by omega))
    have hsn := fun W => qlk (g.qaa[k]'hkg) (h.qaa[k]'hkh) W
    have hiff := @Gm.Shot.qex (g.qaa[k]'hkg) (h.qaa[k]'hkh)
    generalize g.qaa[k]'hkg = s at a0 a1 a2 a3 a4 a5 HS HT hsn hiff
    generalize h.qaa[k]'hkh = t at c0 c1 c2 c3 c4 c5 HS HT hsn hiff
    obtain ⟨owner, x, y, vx, vy, left⟩ := s
    obtain ⟨owner2, p, q, vp, vq, left2⟩ := t
    dsimp only at a0 a1 a2 a3 a4 a5 c0 c1 c2 c3 c4 c5
    simp only [Gm.Shot.cells] at hsn
    have hk8 : (k : Int) < n := by omega
    have HB := qh hB
    have HC := qh hC
    have HBB := qh hb
    clear hr hq ne hB1 hB2 g0 g1 h0 h1 x1 x2 hB hC hb
    cases hse : Gm.Shot.eqB ⟨owner, x, y, vx, vy, left⟩ ⟨owner2, p, q, vp, vq, left2⟩
    · rw [hse] at hsn hiff
      have hno := qh (show ¬ Gm.Eq g h from fun e => by have := hiff.2 (HS.out e); cases this)
      clear hse hiff
      go_upto_region 6 with fail
      go_quiet (fail)
      go_wp2
      go_ret
      exact ⟨by first | exact ⟨false, rfl, by simp; exact hno.out⟩ | exact .inl ⟨rfl, hno.out⟩, qaj HBB.out _⟩
    · rw [hse] at hsn hiff
      have hn2 := qh (HT.out (hiff.1 rfl))
      clear hse hiff
      go_upto_region 6 with fail
      go_quiet (fail)
      go_wp2
      go_roundw
      case rel => exact ⟨k + 1, by omega, by go_num, HB.out.draws _, HC.out.draws _, qaj HBB.out _, hn2.out⟩
      case measure => simp [intOf]; omega
  · have hk8 : ¬ (k : Int) < n := by omega
    have hyes := qh (show Gm.Eq g h from HI.out ⟨HF.out.1, HF.out.2, trivial, List.ext_getElem? fun j => by
     by_cases hj : j < n
     · exact HALL.out j (by omega)
     · rw [List.getElem?_eq_none (by have := hN.out; omega), List.getElem?_eq_none (by have := hM.out; omega)]⟩)
    have HBB := qh hb
    clear hr hq ne hB1 hB2 g0 g1 h0 h1 x1 x2 hB hC hb
    go_wp2
    go_ret
    exact ⟨by first | exact ⟨true, rfl, by simp; exact hyes.out⟩ | exact .inr ⟨rfl, hyes.out⟩, HBB.out⟩
theorem qeI (g h : Gm.G) (r q : Ros.R) (A B : Option Addr) (n m c d : Nat) (w : World) (hn : n = g.qaa.length) (hm : m = h.qaa.length) (hr : Lies w w.heap.size 6 A n (Gm.qab g.qaa)) (hq : Lies w w.heap.size 6 B m (Gm.qab h.qaa))
 (n63 : n <= maxLen) (m63 : m <= maxLen) :
 Calls Tryz.prog 21 #[.agg (Im.cells g (.slice A n c) r), .agg (Im.cells h (.slice B m d) q)] w fun e w' => (∃ v, e = .returned (.bool v) /\ (v = true ↔ (Gm.Eq g h /\ r.version = q.version /\ ∀ k, k < 8 -> r.peer k = q.peer k /\ r.gen k = q.gen k))) /\ Below w.heap.size w w' := by
 have P0 := qh ((Box.made w 40 (Im.cells g (.slice A n c) r)).alloc (.cells (Im.cells h (.slice B m d) q) 40))
 have Q0 := qh (Box.qan (n := w.heap.size + 1) (w.alloc (.cells (Im.cells g (.slice A n c) r) 40)) 40 (Im.cells h (.slice B m d) q) (by simp))
 have K0 := qh (qal w (.cells (Im.cells g (.slice A n c) r) 40) (.cells (Im.cells h (.slice B m d) q) 40))
 have cg := qh (qky g h A B n m c d _ hn hm ((hr.below K0.out).wider K0.out.size) ((hq.below K0.out).wider K0.out.size) n63 m63)
 have he := fun W => qnD r q W
 have HI := qh (show (r.version == q.version && Ros.qdr r q) = true ↔ (r.version = q.version /\ ∀ k, k < 8 -> r.peer k = q.peer k /\ r.gen k = q.gen k) by rw [Bool.and_eq_true, Ros.qgo]; simp)
 generalize (r.version == q.version && Ros.qdr r q) = E at he HI
 clear hr hq hn hm
 go_enter Tryz.func21, Tryz.ntmps21
 go_wp2_with (first | ((with_reducible refine qaY rfl rfl ?_); apply qay.mk rfl; (focus first | (with_reducible exact P0.out) | (with_reducible exact Q0.out)); dsimp only) | ((with_reducible refine qbt ?_ rfl ?_); (focus first | rfl | kernel_rfl | simp [Region.wanted, yielded]); apply qay.mk rfl; (focus first | (with_reducible exact P1.out) | (with_reducible exact Q1.out)); dsimp only) | (go_at_call 45; ((with_reducible refine (cg.out).mono ?_); rintro e w1 ⟨⟨v, rfl, hv⟩, hb⟩; have P1 := qh (P0.out.below hb P0.out.lt); have Q1 := qh (Q0.out.below hb Q0.out.lt); have K1 := qh (K0.out.trans (hb.mono K0.out.size)); have HV := qh hv; clear hb hv; cases v)))
 all_goals
  go_ret
  first
   | exact ⟨⟨false, rfl, by simp only [Bool.false_eq_true, false_iff]; exact fun x => by have := HV.out.2 x.1; simp at this⟩, K1.out⟩
   | exact ⟨⟨E, rfl, HI.out.trans ⟨fun x => ⟨HV.out.1 (by first | trivial | rfl), x⟩, fun x => x.2⟩⟩, K1.out⟩
   | exact ⟨by simp; exact fun x => absurd (HV.out.2 x) (by simp), K1.out⟩
   | exact ⟨by simp; exact HI.out.trans ⟨fun x => ⟨HV.out.1 (by first | trivial | rfl), x⟩, fun x => x.2⟩, K1.out⟩
   | trace_state
end Go.Proofs.YtbdlpbnfcnhajaaGreat