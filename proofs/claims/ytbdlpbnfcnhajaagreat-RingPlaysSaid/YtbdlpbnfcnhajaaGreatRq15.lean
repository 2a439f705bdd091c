/-
Several texts in one: Lt Rau Rf Sl Hh Eo Tu Mk Rgr Rgx Rgv Sqn Rgw Tj Iw Rgz.
-/
import Derived.Test.YtbdlpbnfcnhajaaGreatRq14
set_option maxRecDepth 100000
set_option maxHeartbeats 8000000
set_option linter.unusedVariables false
set_option linter.unusedSimpArgs false
namespace Go.Proofs.YtbdlpbnfcnhajaaGreat
open Go Go.RowKit Go.Shelf
structure LT (w : World) (t : TypeId) (size : Nat) (A : Option Addr) (n : Nat) (xs : List Value) : Prop where
 lies : Lies w w.heap.size size A n xs
 typed : Typed w t A
section
variable {w w' : World} {t : TypeId} {size n : Nat} {A : Option Addr} {xs : List Value}
theorem LT.nil : LT w t size none 0 [] := ⟨⟨by simp, fun h => absurd rfl h, fun _ _ h => absurd rfl h⟩, Typed.none⟩
theorem LT.call (h : LT w t size A n xs) (hb : Below w.heap.size w w') : LT w' t size A n xs := ⟨h.lies.call hb, h.typed.call hb⟩
theorem LT.stays (h : LT w t size A n xs) (hs : w.heap.size <= w'.heap.size) (hk : ∀ ad, A = some ad -> w'.heap[ad.block]? = w.heap[ad.block]?) : LT w' t size A n xs :=
 ⟨⟨h.lies.len, fun hn => by obtain ⟨ad, e, hb⟩ := h.lies.start hn; exact ⟨ad, e, Nat.lt_of_lt_of_le hb hs⟩, fun ad e hn j u hu => by
   rw [World.cell?_of_block (w := w) (by rw [add_block]; exact hk ad e)]
   exact h.lies.cell ad e hn j u hu⟩, ⟨fun ad e => by obtain ⟨cs, fz, h1⟩ := h.typed.is ad e; exact ⟨cs, fz, (hk ad e).trans h1⟩⟩⟩
theorem LT.row {B : Nat} {t' : TypeId} {old : Array Value} (h : LT w t size A n xs) (hB : Box w B t' old) (hne : t ≠ t') (cs : Array Value) : LT (w.setRow B cs) t size A n xs :=
 h.stays (by rw [setRow_size]; exact Nat.le_refl _) fun ad e => setRow_other w B _ cs fun eb => by
  obtain ⟨cs1, fz, h1⟩ := h.typed.is ad e
  rw [eb, hB.is] at h1
  injection h1 with h1
  injection h1 with _ ht _
  exact hne ht.symm
theorem LT.grown {base size' n' : Nat} {e : TypeId} {v : Value} {ys : List Value} (h : LT w t size A n xs) (ho : w.ownsRow base e size' v n' ys) (hne : t ≠ e) (hg : w.grownBy w' v.ownBlock) : LT w' t size A n xs :=
 h.stays hg.size fun ad ea => by
  obtain ⟨cs1, fz, h1⟩ := h.typed.is ad ea
  refine hg.block ad.block (Array.getElem?_eq_some_iff.1 h1).1 fun hr => ?_
  obtain ⟨_, ⟨rfl, _⟩ | ⟨g, cap, cur, rfl, _, hgg, _⟩⟩ := ho
  · cases hr
  · have e2 : ad.block = g := by injection hr
    rw [e2, hgg] at h1
    injection h1 with h1
    injection h1 with _ ht _
    exact hne ht.symm
theorem LT.boxed {S : Nat} (h : Box w S t xs.toArray) (hl : xs.length = n * size) : LT w t size (some ⟨S, 0, none⟩) n xs :=
 ⟨Lies.qpy h hl, ⟨fun ad e => by injection e with e; subst e; exact ⟨_, _, h.is⟩⟩⟩
end
section
variable {ops : Array Oper} {rest : List Oper} {o : Oper} {a : Act} {w : World} {Q : Exit -> Act -> World -> Prop} {x : Operand}
def qf7 (ops : Array Oper) (Q : Exit -> Act -> World -> Prop) (rest : List Oper) (dst : Option Tmp) (v : Value) (a : Act) (w : World) : Prop :=
 ∃ q : En.S, v = .agg (En.cells q.e q.sl) /\ wpList Tryz.prog ops Q rest (a.put dst (.slice (some ⟨w.heap.size, 0, none⟩) 1 1)) (w.alloc (.cells (En.qbr [q]).toArray 51))
theorem qf7.mk {dst : Option Tmp} {v : Value} {q : En.S} (hv : v = .agg (En.cells q.e q.sl)) (h : wpList Tryz.prog ops Q rest (a.put dst (.slice (some ⟨w.heap.size, 0, none⟩) 1 1)) (w.alloc (.cells (En.qbr [q]).toArray 51))) : qf7 ops Q rest dst v a w := ⟨q, hv, h⟩
theorem qjS (q : En.S) : (En.qbr [q]).toArray = En.cells q.e q.sl := by
 unfold En.qbr
 rw [List.flatMap_cons, List.flatMap_nil, List.append_nil, En.S.qha]
theorem qpi (e : En.E) (A : Option Addr) (n c : Nat) : Instr.fill (fun i => some (i * 26, 26)) ((Array.range (1 * 26)).map ((Value.agg En.qiQ).cells[· % (Value.agg En.qiQ).cells.size]!)) [(0, .agg (En.cells e (.slice A n c)))] = some (En.cells e (.slice A n c)) := by kernel_rfl
theorem qoi (hgd : o.guard = none) (ho : o.op = .buildSlice 25 1 #[(0, x)]) (h : qf7 ops Q rest o.dst (a.eval x) a w) : wpList Tryz.prog ops Q (o :: rest) a w := by
 obtain ⟨q, hv, h⟩ := h
 refine wpList_plain hgd fun _ hK => ?_
 have hr : (Instr.buildSlice 25 1 #[(0, .agg (En.cells q.e q.sl))]).run Tryz.prog w = .ok (.slice (some ⟨w.heap.size, 0, none⟩) 1 1) (w.alloc (.cells (En.qbr [q]).toArray 51)) := by
  have h1 := qfn
  have h2 := qk3
  cases hq : Tryz.prog.info? 51 with
  | none => rw [hq] at h1; cases h1
  | some ie =>
   rw [hq] at h1 h2
   have hs : ie.size = 26 := by simpa using h1
   have hz : ie.zero = some (.agg En.qiQ) := by simpa using h2
   exact run_buildSlice w _ _ 1 _ _ ie (.agg En.qiQ) Tryz.underlying25 hq hz (by rw [hs]; decide) (by rw [hs]; decide) (by rw [hs, qjS]; exact qpi q.e q.adr q.e.evs.length q.cap)
 unfold Oper.wp execOp
 simp only [ho, List.map_toArray, List.map_cons, List.map_nil, hv, Sem.run_bind, hr, Result.andThen_ok, Sem.run_pure]
 exact hK _ _ h
end
theorem qph : ∃ i, Tryz.prog.info? 51 = some i /\ i.zero = some (.agg En.qiQ) /\ i.size = 26 /\ i.bytes = 56 := by
 have h1 := qfn
 have h2 := qk3
 have h3 : (Tryz.prog.info? 51).map (·.bytes) = some 56 := by kernel_rfl
 cases hq : Tryz.prog.info? 51 with
 | none => rw [hq] at h1; cases h1
 | some ie =>
  rw [hq] at h1 h2 h3
  exact ⟨ie, rfl, by simpa using h2, by simpa using h1, by simpa using h3⟩
theorem En.qkm (l : List En.S) (q : En.S) : En.qbr (l ++ [q]) = En.qbr l ++ En.qbr [q] := by unfold En.qbr; rw [List.flatMap_append]
structure Mk (w : World) (bs : Nat) (d : Int) (u : Fd.S) (A : Option Addr) (c : Nat) (AO : Option Addr) (cO : Nat) (out : List En.S) (W : World) : Prop where
 st : Box W bs 40 (Im.cells u.g (.slice A u.g.qaa.length c) u.r)
 sh : LT W 72 6 A u.g.qaa.length (Gm.qab u.g.qaa)
 own : W.ownsRow w.heap.size 51 26 (.slice AO out.length cO) out.length (En.qbr out)
 ev : ∀ q ∈ out, LT W 79 4 q.adr q.e.evs.length (En.qbo q.e.evs)
 few : ∀ q ∈ out, q.e.evs.length <= maxLen
 ty : ∀ q ∈ out, ∀ i, i < 8 -> Gm.tyIn (q.e.inp i)
 run : Fd.run (Fd.start d) (Fd.es out) = some u
 far : w.heap.size <= bs
 below : Below w.heap.size w W
section
variable {w W W' : World} {bs : Nat} {d : Int} {u v : Fd.S} {A A2 AO : Option Addr} {c c2 cO : Nat} {out : List En.S} {q : En.S}
theorem Mk.call (h : Mk w bs d u A c AO cO out W) (hb : Below W.heap.size W W') : Mk w bs d u A c AO cO out W' :=
 ⟨h.st.below hb h.st.lt, h.sh.call hb, own_below h.own hb (Nat.le_refl _), fun q hq => (h.ev q hq).call hb, h.few, h.ty, h.run, h.far, h.below.trans (hb.mono h.below.size)⟩
theorem Mk.lies (h : Mk w bs d u A c AO cO out W) : qdp W W.heap.size AO out.length out := ⟨Lies.owned h.own, fun q hq => (h.ev q hq).lies, h.few⟩
theorem Mk.next (h : Mk w bs d u A c AO cO out W) (hv : Fd.apply u q.e = some v) (hL : LT W 72 6 A2 v.g.qaa.length (Gm.qab v.g.qaa)) (hE : LT W 79 4 q.adr q.e.evs.length (En.qbo q.e.evs)) (hf : q.e.evs.length <= maxLen) (ht : ∀ i, i < 8 -> Gm.tyIn (q.e.inp i)) :
 ((W.setRow bs (Im.cells v.g (.slice A2 v.g.qaa.length c2) v.r)).alloc (.cells (En.qbr [q]).toArray 51)).ownsRow w.heap.size 51 26 (.slice AO out.length cO) out.length (En.qbr out) /\
 ∀ A' c' w', w'.ownsRow w.heap.size 51 26 (.slice A' (out.length + 1) c') (out.length + 1) (En.qbr out ++ En.qbr [q]) -> ((W.setRow bs (Im.cells v.g (.slice A2 v.g.qaa.length c2) v.r)).alloc (.cells (En.qbr [q]).toArray 51)).grownBy w' (Value.slice AO out.length cO).ownBlock ->
  Mk w bs d v A2 c2 A' c' (out ++ [q]) w' := by
 obtain ⟨W1, hW1⟩ : ∃ W1, W1 = W.setRow bs (Im.cells v.g (.slice A2 v.g.qaa.length c2) v.r) := ⟨_, rfl⟩
 rw [<- hW1]
 have hB := h.st
 have b1 : Box W1 bs 40 (Im.cells v.g (.slice A2 v.g.qaa.length c2) v.r) := by rw [hW1]; exact hB.row _
 have s1 : LT W1 72 6 A2 v.g.qaa.length (Gm.qab v.g.qaa) := by rw [hW1]; exact hL.row hB (by decide) _
 have e1 : ∀ q' ∈ out ++ [q], LT W1 79 4 q'.adr q'.e.evs.length (En.qbo q'.e.evs) := fun q' hq' => by
  rw [hW1]
  rcases List.mem_append.1 hq' with hq1 | hq1
  · exact (h.ev q' hq1).row hB (by decide) _
  · obtain rfl : q' = q := by simpa using hq1
    exact hE.row hB (by decide) _
 have o1 : W1.ownsRow w.heap.size 51 26 (.slice AO out.length cO) out.length (En.qbr out) := by
  rw [hW1]
  exact qbf h.own (hB.qaO h.own (by decide)) _
 have k1 : Below w.heap.size w W1 := by rw [hW1]; exact Below.setRow' h.below h.far _
 obtain ⟨X, hX⟩ : ∃ X, X = W1.alloc (.cells (En.qbr [q]).toArray 51) := ⟨_, rfl⟩
 rw [<- hX]
 have hb : Below W1.heap.size W1 X := by rw [hX]; exact qac _ _
 have o2 := own_below o1 hb (Nat.le_refl _)
 have b2 := b1.below hb b1.lt
 have k2 := k1.trans (hb.mono k1.size)
 refine ⟨o2, fun A' c' w' ho hg => ?_⟩
 have hlen : (out ++ [q]).length = out.length + 1 := by simp
 refine ⟨b2.grown hg (b2.qaO o2 (by decide)), (s1.call hb).grown o2 (by decide) hg, ?_, fun q' hq' => ((e1 q' hq').call hb).grown o2 (by decide) hg, fun q' hq' => ?_, fun q' hq' => ?_, ?_, h.far, ?_⟩
 · rw [hlen, En.qkm]; exact ho
 · rcases List.mem_append.1 hq' with hq1 | hq1
   · exact h.few q' hq1
   · obtain rfl : q' = q := by simpa using hq1
     exact hf
 · rcases List.mem_append.1 hq' with hq1 | hq1
   · exact h.ty q' hq1
   · obtain rfl : q' = q := by simpa using hq1
     exact ht
 · show Fd.run (Fd.start d) (Fd.es (out ++ [q])) = some v
   unfold Fd.es
   rw [List.map_append, List.map_cons, List.map_nil, Fd.qfb]
   have := h.run
   unfold Fd.es at this
   rw [this, Option.bind_some, Fd.qnz]
   exact hv
 · refine k2.grown hg k2.size fun k hk => ?_
   obtain ⟨_, ⟨e, _⟩ | ⟨g, cap, cur, e, hbg, _⟩⟩ := o2
   · rw [e] at hk; cases hk
   · rw [e] at hk
     injection hk with hk
     have : g = k := hk
     omega
end
theorem qhr (s : Fd.S) (e : En.E) (A A2 : Option Addr) (n c m c2 : Nat) (w : World) (hty : Gm.ty s.g) (hn63 : n <= maxLen) (hn : n = s.g.qaa.length) (hr : Lies w w.heap.size 6 A n (Gm.qab s.g.qaa)) (hm : m = e.evs.length) (hm63 : m <= maxLen) (hE : Lies w w.heap.size 4 A2 m (En.qbo e.evs)) (hin : ∀ i, i < 8 -> Gm.tyIn (e.inp i)) (h : Fd.apply s e = none) :
 Calls Tryz.prog 9 #[.agg (Im.cells s.g (.slice A n c) s.r), .agg (En.cells e (.slice A2 m c2))] w (SOut s.g s.r 1 w) := by
 by_cases hmay : Fd.May s e
 · refine (qdO s e A A2 n c m c2 w hty hn63 hn hr hm hm63 hE hin hmay).mono fun r w' hB => ?_
   rcases hB with ⟨u, hu, _⟩ | ⟨_, hB⟩
   · rw [h] at hu; cases hu
   · exact hB
 · exact qjo s e A A2 n c m c2 w hty hn63 hn hr hm hm63 hE hin hmay
namespace Fd
def qed (r : Ros.R) : Nat -> Int
 | 0 => -1
 | k + 1 => if r.peer k < 0 /\ (qed r k < 0 \/ r.gen k < r.gen (qed r k).toNat) then k else qed r k
def qjM (r : Ros.R) : Int := if 0 <= qed r 8 /\ r.gen (qed r 8).toNat = 60000 then -1 else qed r 8
theorem qlJ (r : Ros.R) (k : Nat) : qed r k = -1 \/ ∃ q : Nat, q < k /\ qed r k = q := by
 induction k with
 | zero => exact .inl rfl
 | succ k ih =>
  unfold qed
  split
  · exact .inr ⟨k, Nat.lt_succ_self k, rfl⟩
  · rcases ih with h | ⟨q, hq, h⟩
    · exact .inl h
    · exact .inr ⟨q, by omega, h⟩
theorem qpf (r : Ros.R) : qjM r = -1 \/ ∃ k : Nat, k < 8 /\ qjM r = k /\ r.gen k ≠ 60000 := by
 unfold qjM
 split
 · exact .inl rfl
 · rename_i h
   rcases qlJ r 8 with h1 | ⟨q, hq, h1⟩
   · exact .inl h1
   · refine .inr ⟨q, hq, h1, fun hg => h ?_⟩
     rw [h1]
     exact ⟨by omega, hg⟩
theorem qjN {r : Ros.R} {k : Nat} {v : Int} (hv : v = qed r k) (hp : r.peer k < 0) (hg : v < 0 \/ r.gen k < r.gen v.toNat) : (k : Int) = qed r (k + 1) := by
 subst hv
 rw [qed, if_pos ⟨hp, hg⟩]
theorem qiD {r : Ros.R} {k : Nat} {v : Int} (hv : v = qed r k) (h : ¬ (r.peer k < 0 /\ (v < 0 \/ r.gen k < r.gen v.toNat))) : v = qed r (k + 1) := by
 subst hv
 rw [qed, if_neg h]
end Fd
theorem qms (r : Ros.R) (w : World) (hok : Ros.Ok r) :
 Calls Tryz.prog 30 #[.agg (Ros.cells r)] w fun e w' => e = .returned (.int .i64 (Fd.qjM r)) /\ Below w.heap.size w w' := by
 have P0 := qh (Box.made w 38 (Ros.cells r))
 have K0 := qh (qac w (.cells (Ros.cells r) 38))
 have cm := fun X => qh (qcj r X)
 have HOK := qh hok
 clear hok
 go_enter Tryz.func30, Tryz.ntmps30
 go_wp2
 go_loopw [3, 4] (fun b i wr => ∃ (k : Nat) (v : Int), k <= 8 /\ i = .int .i64 k /\ b = .int .i64 v /\ v = Fd.qed r k /\ Box wr w.heap.size 38 (Ros.cells r) /\ Below w.heap.size w wr) (fun _ i _ => 8 - (intOf i).toNat)
 case atStart => exact ⟨0, -1, by omega, rfl, rfl, rfl, P0.out, K0.out⟩
 case round =>
  obtain ⟨k, v, hk, rfl, rfl, hv, hB, hb⟩ := hrel
  clear P0 K0
  have HB := qh hB
  have HBB := qh hb
  clear hB hb
  have HV := qh hv
  have hvi : v = -1 \/ ∃ q : Nat, q < 8 /\ v = q := by
   rcases Fd.qlJ r k with h | ⟨q, hq, h⟩
   · exact .inl (hv.trans h)
   · exact .inr ⟨q, by omega, hv.trans h⟩
  clear hv
  by_cases hlt : k < 8
  · have hk8 : (k : Int) < 8 := by omega
    rcases hvi with rfl | ⟨q, hq, rfl⟩
    · skip
      go_upto_region 5 with (first | ((with_reducible refine qbj ?_ rfl ?_); (focus first | rfl | kernel_rfl | simp [Region.wanted, yielded]); apply qah.mk rfl; (focus (with_reducible exact HB.out)); (focus (exact qad))) | (go_at_call 54; ((with_reducible refine ((cm _).out).mono ?_); rintro e w1 ⟨⟨v1, rfl, hv⟩, hb⟩; obtain rfl : v1 = true := hv.2 HOK.out; have B1 := qh (HB.out.below hb HB.out.lt); have K1 := qh (HBB.out.trans (hb.mono HBB.out.size)); clear hb hv)))
      have c1 := (B1.out.cell (1 + k * 2)).trans (Ros.qaB r k hlt)
      have g1 := (B1.out.cell (1 + k * 2 + 1)).trans (Ros.qaV r k hlt)
      obtain ⟨pk, hpk⟩ : ∃ pk, pk = r.peer k := ⟨_, rfl⟩
      rw [<- hpk] at c1
      have HP := qh hpk.symm
      clear hpk
      have B3 := fun m => qh (B1.out.draws m)
      have K3 := fun m => qh (qaj K1.out m)
      by_cases hp : pk < 0
      · go_quiet (fail)
        go_wp2
        go_roundw
        case rel => exact ⟨k + 1, (k : Int), by omega, by go_num, rfl, Fd.qjN HV.out (by rw [HP.out]; exact hp) (.inl (by omega)), (B3 _).out, (K3 _).out⟩
        case measure => simp [intOf]; omega
      · go_quiet (fail)
        go_wp2
        go_roundw
        case rel => exact ⟨k + 1, -1, by omega, by go_num, rfl, Fd.qiD HV.out (fun h => hp (HP.out ▸ h.1)), (B3 _).out, (K3 _).out⟩
        case measure => simp [intOf]; omega
    · skip
      go_upto_region 5 with (first | ((with_reducible refine qbj ?_ rfl ?_); (focus first | rfl | kernel_rfl | simp [Region.wanted, yielded]); apply qah.mk rfl; (focus (with_reducible exact HB.out)); (focus (exact qad))) | (go_at_call 54; ((with_reducible refine ((cm _).out).mono ?_); rintro e w1 ⟨⟨v1, rfl, hv⟩, hb⟩; obtain rfl : v1 = true := hv.2 HOK.out; have B1 := qh (HB.out.below hb HB.out.lt); have K1 := qh (HBB.out.trans (hb.mono HBB.out.size)); clear hb hv)))
      have c1 := (B1.out.cell (1 + k * 2)).trans (Ros.qaB r k hlt)
      have g1 := (B1.out.cell (1 + k * 2 + 1)).trans (Ros.qaV r k hlt)
      have hq8 : (q : Int) < 8 := by omega
      have g2 := (B1.out.cell (1 + q * 2 + 1)).trans (Ros.qaV r q hq)
      obtain ⟨pk, hpk⟩ : ∃ pk, pk = r.peer k := ⟨_, rfl⟩
      obtain ⟨gk, hgk⟩ : ∃ gk, gk = r.gen k := ⟨_, rfl⟩
      obtain ⟨gq, hgq⟩ : ∃ gq, gq = r.gen q := ⟨_, rfl⟩
      rw [<- hpk] at c1
      rw [<- hgk] at g1
      rw [<- hgq] at g2
      have HP := qh hpk.symm
      have HK := qh hgk.symm
      have HQ := qh hgq.symm
      clear hpk hgk hgq
      have B3 := fun m => qh (B1.out.draws m)
      have K3 := fun m => qh (qaj K1.out m)
      by_cases hp : pk < 0
      · by_cases hg : gk < gq
        · go_quiet (fail)
          go_wp2
          go_roundw
          case rel => exact ⟨k + 1, (k : Int), by omega, by go_num, rfl, Fd.qjN HV.out (by rw [HP.out]; exact hp) (.inr (by rw [HK.out, Int.toNat_natCast, HQ.out]; exact hg)), (B3 _).out, (K3 _).out⟩
          case measure => simp [intOf]; omega
        · go_quiet (fail)
          go_wp2
          go_roundw
          case rel => exact ⟨k + 1, (q : Int), by omega, by go_num, rfl, Fd.qiD HV.out (fun h => hg (by have h2 := h.2.resolve_left (by omega); rw [HK.out, Int.toNat_natCast, HQ.out] at h2; exact h2)), (B3 _).out, (K3 _).out⟩
          case measure => simp [intOf]; omega
      · go_quiet (fail)
        go_wp2
        go_roundw
        case rel => exact ⟨k + 1, (q : Int), by omega, by go_num, rfl, Fd.qiD HV.out (fun h => hp (HP.out ▸ h.1)), (B3 _).out, (K3 _).out⟩
        case measure => simp [intOf]; omega
  · have hk8 : ¬ (k : Int) < 8 := by omega
    obtain rfl : k = 8 := by omega
    rcases hvi with rfl | ⟨q, hq, rfl⟩
    · go_wp2
      go_ret
      exact ⟨by unfold Fd.qjM; rw [<- HV.out, if_neg (by omega)] <;> rfl, HBB.out⟩
    · have hq8 : (q : Int) < 8 := by omega
      have g2 := (HB.out.cell (1 + q * 2 + 1)).trans (Ros.qaV r q hq)
      obtain ⟨gq, hgq⟩ : ∃ gq, gq = r.gen q := ⟨_, rfl⟩
      rw [<- hgq] at g2
      by_cases hg : gq = 60000
      · have hg' : (gq == 60000) = true := by simpa using hg
        have HGQ := qh (show r.gen q = 60000 from hgq ▸ hg)
        clear hgq
        go_wp2
        go_ret
        exact ⟨by unfold Fd.qjM; rw [<- HV.out, if_pos ⟨by omega, by rw [Int.toNat_natCast]; exact HGQ.out⟩] <;> rfl, HBB.out⟩
      · have hg' : (gq == 60000) = false := by simpa using hg
        have HGQ := qh (show r.gen q ≠ 60000 from hgq ▸ hg)
        clear hgq
        go_wp2
        go_ret
        exact ⟨by unfold Fd.qjM; rw [<- HV.out, if_neg (fun h => HGQ.out (by have h2 := h.2; rw [Int.toNat_natCast] at h2; exact h2))] <;> rfl, HBB.out⟩
open Go.RowKit Go.Shelf
section
variable {ops : Array Oper} {rest : List Oper} {o : Oper} {a : Act} {w : World} {Q : Exit -> Act -> World -> Prop} {x y : Operand} {dst : Option Tmp} {p v : Value}
def qiP (ops : Array Oper) (Q : Exit -> Act -> World -> Prop) (rest : List Oper) (dst : Option Tmp) (p v : Value) (a : Act) (w : World) : Prop :=
 ∃ (B i : Nat) (e : En.E) (s : Value) (u : Gm.In), p = .pointer (some ⟨B, 2 + i * 3, none⟩) /\ v = .agg #[.int .i8 u.x, .int .i8 u.y, .int .u8 u.b] /\ i < 8 /\ Box w B 51 (En.cells e s) /\ wpList Tryz.prog ops Q rest (a.put dst undef) (w.setRow B (En.cells { e with inp := En.upd e.inp i u } s))
theorem qiP.mk {B i : Nat} {e : En.E} {s : Value} {u : Gm.In} (hp : p = .pointer (some ⟨B, 2 + i * 3, none⟩)) (hv : v = .agg #[.int .i8 u.x, .int .i8 u.y, .int .u8 u.b]) (hi : i < 8) (hB : Box w B 51 (En.cells e s)) (h : wpList Tryz.prog ops Q rest (a.put dst undef) (w.setRow B (En.cells { e with inp := En.upd e.inp i u } s))) : qiP ops Q rest dst p v a w := ⟨B, i, e, s, u, hp, hv, hi, hB, h⟩
theorem qog (e : En.E) (s : Value) (i : Nat) (hi : i < 8) (u : Gm.In) : splice (En.cells e s) (2 + i * 3) [.int .i8 u.x, .int .i8 u.y, .int .u8 u.b] = En.cells { e with inp := En.upd e.inp i u } s := by
 match i, hi with
 | 0, _ | 1, _ | 2, _ | 3, _ | 4, _ | 5, _ | 6, _ | 7, _ => rfl
theorem qk4 (hgd : o.guard = none) (ho : o.op = .store 48 x y) (h : qiP ops Q rest o.dst (a.eval x) (a.eval y) a w) : wpList Tryz.prog ops Q (o :: rest) a w := by
 obtain ⟨B, i, e, s, u, hx, hy, hi, hB, h⟩ := h
 refine wpList_store_mid hgd 48 x y ho B (2 + i * 3) #[.int .i8 u.x, .int .i8 u.y, .int .u8 u.b] hx hy (hB.there _ _ (by rw [En.qag]; show 2 + i * 3 + 3 <= 26; omega)) qgN (by simp [Value.oneCell']) ?_
 rw [qbK B 51 _ (2 + i * 3) (En.cells e s) w hB.is (by rw [En.qag]; show 2 + i * 3 + 3 <= 26; omega), qog e s i hi u]
 exact h
end
open Go.ChangeShapes Go.WideShapes Go.ChangeAt Go.RowKit Go.Joins Go.ChangeMaps Go.Deep
section
variable {H : Type} {enc : TypeId × Value -> H} {w : World} {base : Nat} {spare : Nat -> Bool} {held : Bool}
theorem qpI {fuel : Nat} {a b c : Value} {y : DataW H × List MemPlace} (h : DataW.trod enc Tryz.prog w base spare held fuel 48 [a, b, c] = some y) : ∃ q : Gm.In, [a, b, c] = q.cells /\ Gm.tyIn q /\ y.2 = [] := by
 obtain ⟨y0, y1, y2, n, hx, _, h0, h1, h2⟩ := trod_struct3 Tryz.underlying48 h
 obtain ⟨x0, e0, rfl, w0⟩ := DataW.trod_int Tryz.underlying46 h0
 obtain ⟨x1, e1, rfl, w1⟩ := DataW.trod_int Tryz.underlying46 h1
 obtain ⟨x2, e2, rfl, w2⟩ := DataW.trod_int Tryz.underlying5 h2
 have c8 : Tryz.prog.cellsOf 46 = 1 := by kernel_rfl
 have cu : Tryz.prog.cellsOf 5 = 1 := by kernel_rfl
 simp [c8, cu] at e0 e1 e2
 subst e0 e1 e2
 exact ⟨⟨x0, x1, x2⟩, rfl, ⟨Bd.i8 w0, Bd.i8 w1, Bd.u8 w2⟩, by rw [hx]; rfl⟩
theorem qqJ {α : Type} (l : List α) (h : l.length = 24) : l = (l.drop (0 * 3)).take 3 ++ ((l.drop (1 * 3)).take 3 ++ ((l.drop (2 * 3)).take 3 ++ ((l.drop (3 * 3)).take 3 ++ ((l.drop (4 * 3)).take 3 ++ ((l.drop (5 * 3)).take 3 ++ ((l.drop (6 * 3)).take 3 ++ ((l.drop (7 * 3)).take 3))))))) := by
 match l, h with
 | [a0, a1, a2, a3, a4, a5, a6, a7, a8, a9, a10, a11, a12, a13, a14, a15, a16, a17, a18, a19, a20, a21, a22, a23], _ => rfl
end
theorem qqd {α : Type} (l : List α) (a b : Nat) : l.drop a = (l.drop a).take b ++ l.drop (a + b) := by
 have := (List.take_append_drop b (l.drop a)).symm
 rwa [List.drop_drop] at this
theorem qpj {α : Type} (l : List α) (a b : Nat) (h : l.length = a + b) : l.drop a = (l.drop a).take b := by
 rw [List.take_of_length_le (by simp; omega)]
section
variable {H : Type} {enc : TypeId × Value -> H} {w : World} {base : Nat} {spare : Nat -> Bool} {held : Bool}
theorem qoB {base : Nat} {spare : Nat -> Bool} {held : Bool} {fuel : Nat} {l : List Value} {y : DataW H × List MemPlace} (hl : l.length = 24) (h : DataW.trod enc Tryz.prog w base spare held fuel 49 l = some y) :
 ∃ f : Nat -> Gm.In, l = Gm.qaI f /\ ∀ k, k < 8 -> Gm.tyIn (f k) := by
 obtain ⟨xs, m, _, hx, _, hn, he⟩ := DataW.trod_array Tryz.underlying49 h
 have c3 : Tryz.prog.cellsOf 48 = 3 := by kernel_rfl
 simp only [c3] at he
 have key : ∀ i, i < 8 -> ∃ q : Gm.In, (l.drop (i * 3)).take 3 = q.cells /\ Gm.tyIn q := by
  intro i hi
  have hlen : ((l.drop (i * 3)).take 3).length = 3 := by simp; omega
  obtain ⟨y, hy⟩ : ∃ y, xs[i]? = some y := ⟨xs[i]'(by omega), List.getElem?_eq_getElem (by omega)⟩
  have h : DataW.trod enc Tryz.prog w base spare held m 48 ((l.drop (i * 3)).take 3) = xs[i]? := he i hi
  rw [hy] at h
  match hq : (l.drop (i * 3)).take 3, hlen with
  | [a, b, c], _ =>
   rw [hq] at h
   obtain ⟨q, h1, h2, _⟩ := qpI h
   exact ⟨q, h1, h2⟩
 have hch : ∃ ps : Nat -> Gm.In, ∀ i, i < 8 -> ((l.drop (i * 3)).take 3 = (ps i).cells /\ Gm.tyIn (ps i)) :=
  ⟨fun i => if h : i < 8 then (key i h).choose else ⟨0, 0, 0⟩, fun i hi => by dsimp only; rw [dif_pos hi]; exact (key i hi).choose_spec⟩
 obtain ⟨ps, hps⟩ := hch
 refine ⟨ps, ?_, fun i hi => (hps i hi).2⟩
 rw [qqJ l hl]
 unfold Gm.qaI
 rw [(hps 0 (by decide)).1, (hps 1 (by decide)).1, (hps 2 (by decide)).1, (hps 3 (by decide)).1, (hps 4 (by decide)).1, (hps 5 (by decide)).1, (hps 6 (by decide)).1, (hps 7 (by decide)).1]
end
end Go.Proofs.YtbdlpbnfcnhajaaGreat
namespace Fd
open Go
structure Turn where
 peer : Int
 inp : Nat -> Gm.In
def Turn.cells (q : Turn) : List Value := [Value.int .i64 q.peer] ++ Gm.qaI q.inp
theorem Turn.qcs (q : Turn) : q.cells.length = 25 := rfl
def Turn.ty (q : Turn) : Prop := (-9223372036854775808 <= q.peer /\ q.peer <= 9223372036854775807) /\ ∀ i, i < 8 -> Gm.tyIn (q.inp i)
end Fd
namespace Go.Proofs.YtbdlpbnfcnhajaaGreat
open Go.ChangeShapes Go.WideShapes Go.ChangeAt Go.RowKit Go.Joins Go.ChangeMaps Go.Deep
section
variable {H : Type} {enc : TypeId × Value -> H} {w : World} {base : Nat} {spare : Nat -> Bool} {held : Bool}
theorem qna {base : Nat} {spare : Nat -> Bool} {held : Bool} {fuel : Nat} {l : List Value} {y : DataW H × List MemPlace} (hl : l.length = 25) (h : DataW.trod enc Tryz.prog w base spare held fuel 75 l = some y) : ∃ q : Fd.Turn, l = q.cells /\ q.ty := by
 obtain ⟨xs, n, _, _, _, hlen, hf⟩ := DataW.trod_struct Tryz.underlying75 h
 have ci : Tryz.prog.cellsOf 3 = 1 := by kernel_rfl
 have c24 : Tryz.prog.cellsOf 49 = 24 := by kernel_rfl
 match xs, hlen with
 | [y0, y1], _ =>
  obtain ⟨x0, e0, _, w0⟩ := DataW.trod_int Tryz.underlying3 (hf 0 _ rfl)
  have h1 := hf 1 _ rfl
  simp [ci, c24] at e0 h1
  obtain ⟨f, e1, hty⟩ := qoB (by simp; omega) h1
  refine ⟨⟨x0, f⟩, ?_, Bd.i64 w0, hty⟩
  have e0' : (l.drop 0).take 1 = [Value.int .i64 x0] := by rw [<- e0]; simp
  have q1 : l.drop 1 = Gm.qaI f := by rw [<- e1, <- List.drop_one]; exact qpj l 1 24 (by omega)
  have q0 : l.drop 0 = [Value.int .i64 x0] ++ Gm.qaI f := by rw [<- q1, <- e0']; exact qqd l 0 1
  exact q0
theorem qmz {b0 : Nat} {v : Value} {d : DataW H} {p : List MemPlace} (hv : Value.okWide Tryz.prog w .any b0 22 v) (h : DataW.Trod enc Tryz.prog w base spare held 22 v d p) :
 ∃ (A : Option Addr) (c : Nat) (l : List Fd.Turn), v = .slice A l.length c /\ (∀ q ∈ l, q.ty) /\ l.length <= maxLen /\ Lies w w.heap.size 25 A l.length (l.flatMap Fd.Turn.cells) := by
 have hag : ∀ cs, v ≠ .agg cs := fun cs e => by subst e; simp [Value.okWide, Tryz.underlying22, Cell.okWide, Cell.ok] at hv
 exact open_slice (enc := enc) (w := w) (base := base) (spare := spare) (held := held) Fd.Turn.cells 25 Fd.Turn.ty ⟨0, fun _ => ⟨0, 0, 0⟩⟩ Tryz.underlying22 (by kernel_rfl) (by decide) (fun _ => rfl) (fun hl ht => qna hl ht) hag h
end
open Go Go.RowKit Go.Shelf
def Made (d : Int) (n : Nat) (w : World) (e : Ending) (w' : World) : Prop :=
 ∃ (A : Option Addr) (c : Nat) (l : List En.S) (u : Fd.S), e = .returned (.slice A l.length c) /\ qdp w' w'.heap.size A l.length l /\ (∀ q ∈ l, ∀ i, i < 8 -> Gm.tyIn (q.e.inp i)) /\ Fd.run (Fd.start d) (Fd.es l) = some u /\ l.length <= n /\ Below w.heap.size w w' /\ l.length <= c
theorem Mk.cap {w W : World} {bs : Nat} {d : Int} {u : Fd.S} {A AO : Option Addr} {c cO : Nat} {out : List En.S} (h : Mk w bs d u A c AO cO out W) : out.length <= cO := by
 obtain ⟨_, ⟨e, h0⟩ | ⟨g, cap, cur, e, _, _, hc, _⟩⟩ := h.own
 · omega
 · injection e with _ _ e
   omega
structure Mr (wr : World) (k : Nat) (r : Ros.R) (evs : List En.Ev) (ps : Nat -> Gm.In) (AE : Option Addr) (cE : Nat) (W : World) : Prop where
 en : Box W wr.heap.size 51 (En.cells ⟨k, evs, ps⟩ (.slice AE evs.length cE))
 ro : Box W (wr.heap.size + 1) 38 (Ros.cells r)
 ev : LT W 79 4 AE evs.length (En.qbo evs)
 below : Below wr.heap.size wr W
section
variable {wr W W' : World} {k : Nat} {r r' : Ros.R} {evs : List En.Ev} {ps ps' : Nat -> Gm.In} {AE : Option Addr} {cE : Nat}
theorem Mr.call (h : Mr wr k r evs ps AE cE W) (hb : Below W.heap.size W W') : Mr wr k r evs ps AE cE W' :=
 ⟨h.en.below hb h.en.lt, h.ro.below hb h.ro.lt, h.ev.call hb, h.below.trans (hb.mono h.below.size)⟩
theorem Mr.ros (h : Mr wr k r evs ps AE cE W) (r' : Ros.R) : Mr wr k r' evs ps AE cE (W.setRow (wr.heap.size + 1) (Ros.cells r')) :=
 ⟨h.en.qa4 (by omega) _, h.ro.row _, h.ev.row h.ro (by decide) _, Below.setRow' h.below (by omega) _⟩
theorem Mr.inp (h : Mr wr k r evs ps AE cE W) (ps' : Nat -> Gm.In) : Mr wr k r evs ps' AE cE (W.setRow wr.heap.size (En.cells ⟨k, evs, ps'⟩ (.slice AE evs.length cE))) :=
 ⟨h.en.row _, h.ro.qa4 (by omega) _, h.ev.row h.en (by decide) _, Below.setRow' h.below (Nat.le_refl _) _⟩
end
theorem LT.set {w : World} {t t' : TypeId} {size n B : Nat} {A : Option Addr} {xs : List Value} {old : Array Value} (h : LT w t size A n xs) (hB : Box w B t' old) (hne : t ≠ t') (i : Nat) (v : Value) : LT (w.setCell ⟨B, i, none⟩ v) t size A n xs :=
 h.stays ((Below.refl 0 w).setCell (Nat.zero_le _) v).size fun ad e => heap_setCell_other w ⟨B, i, none⟩ _ v fun eb => by
  obtain ⟨cs1, fz, h1⟩ := h.typed.is ad e
  rw [eb, hB.is] at h1
  injection h1 with h1
  injection h1 with _ ht _
  exact hne ht.symm
theorem Mr.event {wr W : World} {k : Nat} {r : Ros.R} {ps : Nat -> Gm.In} (h : Mr wr k r [] ps none 0 W) (v : En.Ev) :
 Mr wr k r [v] ps (some ⟨W.heap.size, 0, none⟩) 1 ((W.setCell ⟨wr.heap.size, 1, none⟩ (.slice (some ⟨W.heap.size, 0, none⟩) 1 1)).alloc (.cells #[.int .i64 v.kind, .int .i64 v.slot, .int .i64 v.gen, .int .i64 v.peer] 79)) :=
 have hs : (W.setCell ⟨wr.heap.size, 1, none⟩ (.slice (some ⟨W.heap.size, 0, none⟩) 1 1)).heap.size = W.heap.size := by simp
 ⟨(h.en.put 1 _).alloc _, (h.ro.far (by show _ ≠ wr.heap.size; omega) _).alloc _, LT.boxed (xs := En.qbo [v]) (Box.qan (n := W.heap.size) _ _ _ hs.symm) rfl, (h.below.setCell (Nat.le_refl _) _).alloc (by rw [hs]; exact h.below.size) _⟩
theorem Fd.Turn.qc0 (q : Fd.Turn) (i c : Nat) (hi : i < 8) (hc : c < 3) : q.cells[1 + i * 3 + c]? = (q.inp i).cells[c]? := by
 match i, hi with
 | 0, _ | 1, _ | 2, _ | 3, _ | 4, _ | 5, _ | 6, _ | 7, _ =>
  match c, hc with
  | 0, _ | 1, _ | 2, _ => rfl
theorem qot (a : Addr) (m : Nat) : a.add (m + 1) = ⟨a.block, a.off + (m + 1), none⟩ := by unfold Addr.add; rw [if_neg (by omega)]
theorem qqt {B0 : Nat} {W : World} {o : Oper} {a : Act} {K : Act -> Prop} {B : Nat} {r : Ros.R} {x : Operand} (ho : o.op = .load 38 x) (hx : a.eval x = .pointer (some ⟨B, 0, none⟩)) (hB : ∀ q : Ext B0 W, Box q.w B 38 (Ros.cells r)) (h : K (a.put o.dst (.agg (Ros.cells r)))) :
 o.quiet Tryz.prog a (fun w' => ∃ q : Ext B0 W, w' = q.w) K :=
 ⟨_, fun w hw => by obtain ⟨q, e'⟩ := hw; subst e'; unfold Oper.quietAt; rw [qcb ho hx (hB q) Tryz.underlying38 rfl qad]; exact ⟨rfl, rfl⟩, h⟩
theorem qgV {o : Oper} {a : Act} {w : World} {x : Operand} {ad : Addr} (v : En.Ev) (ho : o.op = .load 79 x) (hx : a.eval x = .pointer (some ad)) (hc : ∀ j u, v.cells[j]? = some u -> w.cell? (ad.add j) = some u) :
 (execOp a.eval o).run Tryz.prog w = .ok (.value (.agg #[.int .i64 v.kind, .int .i64 v.slot, .int .i64 v.gen, .int .i64 v.peer])) w :=
 qcc (cs := v.cells) ho hx hc Tryz.underlying79 rfl qdD
theorem qkD (s : Fd.S) (v : En.Ev) (hv : En.evOk v) : ∃ (r2 : Ros.R) (code : Int), ∀ w, Calls Tryz.prog 31 #[.agg (Ros.cells s.r), .agg #[.int .i64 v.kind, .int .i64 v.slot, .int .i64 v.gen, .int .i64 v.peer]] w fun e w' => e = .returned (.tuple #[.agg (Ros.cells r2), .int .i64 code]) /\ Below w.heap.size w w' := by
 by_cases h : Fd.qcy s v
 · exact ⟨_, 0, fun w => qfB s v w h⟩
 · exact ⟨_, 1, fun w => qgA s v w hv h⟩
theorem qmn (r : Ros.R) (p : Int) (hok : Ros.Ok r) (hp : 0 <= p) : ∃ v : Int, (v = -1 \/ ∃ k : Nat, k < 8 /\ v = k /\ r.peer k = p) /\ ∀ w, Calls Tryz.prog 29 #[.agg (Ros.cells r), .int .i64 p] w fun e w' => e = .returned (.int .i64 v) /\ Below w.heap.size w w' := by
 by_cases h : ∃ k : Nat, k < 8 /\ r.peer k = p
 · obtain ⟨k, hk, he⟩ := h
   refine ⟨k, .inr ⟨k, hk, rfl, he⟩, fun w => (qdx r p w).mono ?_⟩
   rintro e w' ⟨⟨v, rfl, ⟨_, hno⟩ | ⟨k', hk', rfl, _, _, he'⟩⟩, hb⟩
   · exact absurd he (hno hok hp k hk)
   · obtain rfl : k' = k := hok.one hk' hk (he'.trans he.symm) (by rw [he']; omega)
     exact ⟨rfl, hb⟩
 · refine ⟨-1, .inl rfl, fun w => (qdx r p w).mono ?_⟩
   rintro e w' ⟨⟨v, rfl, ⟨rfl, _⟩ | ⟨k', hk', rfl, _, _, he'⟩⟩, hb⟩
   · exact ⟨rfl, hb⟩
   · exact absurd ⟨k', hk', he'⟩ h
theorem qo2 (seed : ByteArray) (l : List Fd.Turn) (A : Option Addr) (n c : Nat) (d : Int) (w : World) (hsz : seed.size <= maxLen) (hd : d = Dn.seed seed.data.toList) (hn : n = l.length) (hn100 : n <= 100) (hl : Lies w w.heap.size 25 A n (l.flatMap Fd.Turn.cells)) (hty : ∀ q ∈ l, q.ty) :
 Calls Tryz.prog 7 #[.string seed, .slice A n c] w (Made d n w) := by
 have cs := fun X => qh (qiY seed X hsz)
 have hdb := Dn.qgl seed.data.toList
 rw [<- hd] at cs hdb
 have HDB := qh hdb
 have HL := qh hl
 have HT := qh hty
 have HN := qh hn
 clear hsz hd hdb hl hty hn
 go_enter Tryz.func7, Tryz.ntmps7
 go_upto_region 2 with (first | (with_reducible refine qau rfl rfl ?_) | (with_reducible refine qa2 rfl rfl rfl rfl Im.qar rfl ?_) | (go_at_call 8; ((with_reducible refine ((cs _).out).mono ?_); rintro x w1 ⟨rfl, hb⟩; have S1 := qh (Box.made w1 40 (Im.cells (Gm.new d) (.slice none 0 0) Ros.new)); have K1 := qh (hb.alloc hb.size (.cells (Im.cells (Gm.new d) (.slice none 0 0) Ros.new) 40)); have sz1 := hb.size; clear hb)))
 generalize hW1 : w1.alloc (.cells (Im.cells (Gm.new d) (.slice none 0 0) Ros.new) 40) = W1 at S1 K1 ⊢
 generalize hbs : w1.heap.size = bs at S1 sz1 ⊢
 clear hW1 hbs
 have M1 := qh (show Mk w bs d (Fd.start d) none 0 none 0 [] W1 from ⟨S1.out, LT.nil, World.ownsRow_nil _ _ _ _, fun q h => (nomatch h), fun q h => (nomatch h), fun q h => (nomatch h), rfl, sz1, K1.out⟩)
 clear S1 K1 cs sz1
 go_wp2
 go_loopw [6, 7, 8, 9, 10, 11, 12, 13, 14, 15, 16] (fun o i _ _ _ _ _ _ _ _ _ wr => ∃ (k : Nat) (u : Fd.S) (A' : Option Addr) (c' : Nat) (AO : Option Addr) (cO : Nat) (out : List En.S), k <= n /\ i = .int .i64 k /\ o = .slice AO out.length cO /\ out.length = k /\ Mk w bs d u A' c' AO cO out wr) (fun _ i _ _ _ _ _ _ _ _ _ _ => n - (intOf i).toNat)
 case atStart => exact ⟨0, Fd.start d, none, 0, none, 0, [], Nat.zero_le _, rfl, rfl, rfl, M1.out⟩
 case round =>
  obtain ⟨k, u, A', c', AO, cO, out, hk, rfl, rfl, hout, hM⟩ := hrel
  rename World => w0
  have HO := qh hout
  clear hout
  clear M1
  by_cases hlt : k < n
  · have hk8 : (k : Int) < n := by omega
    have hkl : k < l.length := by have := HN.out; omega
    have hFi := ((Fd.qbN HDB.out).run hM.run).1
    have hLw := (HL.out.below hM.below)
    obtain ⟨ad, rfl, hblk⟩ := hLw.start (by omega)
    have hrow : ∀ j v, j < 25 -> l[k].cells[j]? = some v -> w0.cell? ((ad.add (k * 25)).add j) = some v := fun j v hj hv => by
     rw [qct]
     exact hLw.cell ad rfl (by omega) _ v (by rw [qiH Fd.Turn.qcs l k j hkl hj, hv])
    have hq := HT.out l[k] (List.getElem_mem hkl)
    generalize l[k] = q at hrow hq
    have szM := hM.below.size
    have hbw : (ad.add (k * 25)).block < w0.heap.size := by rw [add_block]; exact Nat.lt_of_lt_of_le hblk szM
    have TC := qh (fun (X : World) (hX : Below w0.heap.size w0 X) (j : Nat) (v : Value) (hj : j < 25) (hv : q.cells[j]? = some v) => (hX.cell (p := (ad.add (k * 25)).add j) (by rw [add_block]; exact hbw)).trans (hrow j v hj hv))
    have HM := qh hM
    have HF := qh hFi
    have HQ := qh hq
    have E1 := qh (Box.made w0 51 (En.cells (Fd.eI k) (.slice none 0 0)))
    have M2 := qh (hM.call (qac w0 (.cells (En.cells (Fd.eI k) (.slice none 0 0)) 51)))
    have E2 := qh (E1.out.alloc (.cells (Ros.cells u.r) 38))
    have R2 := qh (Box.qan (n := w0.heap.size + 1) (w0.alloc (.cells (En.cells (Fd.eI k) (.slice none 0 0)) 51)) 38 (Ros.cells u.r) (by simp))
    have K2 := qh (qal w0 (.cells (En.cells (Fd.eI k) (.slice none 0 0)) 51) (.cells (Ros.cells u.r) 38))
    have hp0 : w0.cell? (ad.add (k * 25)) = some (.int .i64 q.peer) := hrow 0 _ (by decide) rfl
    have hqp := hq.1
    obtain ⟨pe, hpe⟩ : ∃ pe, pe = q.peer := ⟨_, rfl⟩
    rw [<- hpe] at hp0 hqp
    obtain ⟨p, hp40, hpp⟩ : ∃ p : Nat, p < 40 /\ wrap64 ((IntKind.u64.wrap pe).tmod 40) = (p : Int) := by
     rw [qdK]
     obtain ⟨z, hz⟩ : ∃ z, z = pe % 18446744073709551616 := ⟨_, rfl⟩
     rw [<- hz]
     have hz0 : 0 <= z := by omega
     clear hz
     refine ⟨(z % 40).toNat, by omega, ?_⟩
     rw [Int.tmod_eq_emod_of_nonneg hz0, IntWalk.wrap64_in _ (by omega)]
     omega
    clear hFi hLw hq hM hrow hpe
    go_upto_region 9 with (first | (with_reducible refine qpm rfl rfl ?_) | (with_reducible refine qjR rfl rfl rfl rfl En.qlR rfl ?_) | (refine qaM rfl (t := 51) (vs := [(0, .int .i64 k)]) rfl rfl (qmT k) ?_) | (with_reducible refine qaq rfl rfl ?_) | (with_reducible refine qaC rfl rfl rfl rfl rfl ?_) | ((with_reducible refine qb0 rfl rfl ?_); apply qay.mk rfl; (focus (with_reducible exact M2.out.st)); dsimp only))
    rw [hpp]
    have RD := qh (show Mr w0 k u.r [] Fd.in0 none 0 ((w0.alloc (.cells (En.cells (Fd.eI k) (.slice none 0 0)) 51)).alloc (.cells (Ros.cells u.r) 38)) from ⟨E2.out, R2.out, LT.nil, K2.out⟩)
    generalize ((w0.alloc (.cells (En.cells (Fd.eI k) (.slice none 0 0)) 51)).alloc (.cells (Ros.cells u.r) 38)) = W2 at RD ⊢
    clear hpp hp0 E1 E2 R2 K2 M2 hqp
    go_upto_if 38 with fail
    go_cut [11, 12] from 19 to 141 (fun _ _ wx => ∃ (evs : List En.Ev) (AE : Option Addr) (cE : Nat), Mr w0 k u.r evs Fd.in0 AE cE wx /\ evs.length <= 1 /\ ∀ v ∈ evs, En.evOk v)
    case first =>
     by_cases hp12 : p < 12
     · have hp12' : (p : Int) < 12 := by omega
       obtain ⟨v1, hv1, hs1⟩ := qmn u.r p HF.out.ok.2.1 (by omega)
       have cs1 := fun X => qh (hs1 X)
       have cf1 := fun X => qh (qms u.r X HF.out.ok.2.1)
       have hv2 := Fd.qpf u.r
       have hseat := fun (j : Nat) (hj : j < 8) => Ros.Ok.seat HF.out.ok.2.1 j hj
       have HS := qh hseat
       generalize Fd.qjM u.r = v2 at cf1 hv2
       clear hs1 hseat
       go_upto_region 10 with fail
       have ZR := qh (fun q : Ext W2.heap.size W2 => RD.out.ro.below q.h RD.out.ro.lt)
       have RX := qh (fun q : Ext W2.heap.size W2 => RD.out.call q.h)
       refine qa0 W2.heap.size W2 (by kernel_rfl) (by kernel_rfl) (Below.refl _ _) ?_
       repeat (first | (go_big_quiet_want; refine qqt rfl rfl ZR.out ?_; simp only [Act.put, List.setIfInBounds_toArray, List.set_cons_succ, List.set_cons_zero]; go_big_quiet_on) | go_big_quiet_step ((first | (go_at_call 29; with_reducible exact Calls.qbz (Nat.le_refl _) (cs1 _).out) | (go_at_call 30; with_reducible exact Calls.qbz (Nat.le_refl _) (cf1 _).out))))
       refine wpQuiet_nil ?_
       intro _ hw'
       obtain ⟨q3, hw''⟩ := hw'
       subst hw''
       have R3 := qh (RX.out q3)
       generalize q3.w = W3 at *
       clear cs1 cf1 ZR RX RD q3
       have n1 := (R3.out.en.cell 1).trans (En.qbC _ _)
       have f1 := R3.out.en.free 1
       have l1 := R3.out.en.lt
       rcases hv1 with rfl | ⟨k1, hk1, rfl, hpk⟩
       · rcases hv2 with rfl | ⟨k2, hk2, rfl, hg2⟩
         · go_wp2
           go_meet
           exact ⟨[], none, 0, R3.out, by simp, fun v h => (nomatch h)⟩
         · have hk28 : (k2 : Int) < 8 := by omega
           have g3 := (R3.out.ro.cell (1 + k2 * 2 + 1)).trans (Ros.qaV u.r k2 hk2)
           obtain ⟨gk, hgk⟩ : ∃ gk, gk = u.r.gen k2 := ⟨_, rfl⟩
           have hgb := (HS.out k2 hk2).1
           rw [<- hgk] at g3 hg2 hgb
           have hw1 : IntKind.i64.wrap (gk + 1) = gk + 1 := by rw [IntKind.wrap_i64]; omega
           have J := qh (R3.out.event ⟨1, k2, gk + 1, p⟩)
           have OKV := qh (show En.evOk ⟨1, k2, gk + 1, p⟩ from ⟨.inr rfl, ⟨by show (0 : Int) <= k2; omega, hk28⟩, ⟨by show 1 <= gk + 1; omega, by show gk + 1 <= 60000; omega⟩, by show (0 : Int) <= p; omega, hp12'⟩)
           clear hgk
           go_wp2
           go_meet
           exact ⟨[⟨1, k2, gk + 1, p⟩], _, 1, J.out, by simp, fun v h => by obtain rfl := List.mem_singleton.1 h; exact OKV.out⟩
       · have hk18 : (k1 : Int) < 8 := by omega
         have g3 := (R3.out.ro.cell (1 + k1 * 2 + 1)).trans (Ros.qaV u.r k1 hk1)
         obtain ⟨gk, hgk⟩ : ∃ gk, gk = u.r.gen k1 := ⟨_, rfl⟩
         have hgb := (HS.out k1 hk1)
         unfold Ros.qej at hgb
         rw [<- hgk, hpk] at hgb
         rw [<- hgk] at g3
         have J := qh (R3.out.event ⟨2, k1, gk, p⟩)
         have OKV := qh (show En.evOk ⟨2, k1, gk, p⟩ from ⟨.inl rfl, ⟨by show (0 : Int) <= k1; omega, hk18⟩, ⟨by show 1 <= gk; omega, by show gk <= 60000; omega⟩, by show (0 : Int) <= p; omega, hp12'⟩)
         clear hgk hgb hpk
         go_wp2
         go_meet
         exact ⟨[⟨2, k1, gk, p⟩], _, 1, J.out, by simp, fun v h => by obtain rfl := List.mem_singleton.1 h; exact OKV.out⟩
     · have hp12' : ¬ (p : Int) < 12 := by omega
       go_wp2
       go_meet
       exact ⟨[], none, 0, RD.out, by simp, fun v h => (nomatch h)⟩
    case rest =>
     obtain ⟨evs, AE, cE, hMr, hlen, hok⟩ := hcut
     have R4 := qh hMr
     have OKE := qh hok
     clear hMr hok RD
     have n1 := (R4.out.en.cell 1).trans (En.qbC _ _)
     go_wp2
     go_loopw [13] (fun i wr => ∃ (j : Nat) (r' : Ros.R), j <= evs.length /\ i = .int .i64 j /\ Mr w0 k r' evs Fd.in0 AE cE wr) (fun i _ => evs.length - (intOf i).toNat)
     case atStart => exact ⟨0, u.r, Nat.zero_le _, rfl, R4.out⟩
     case round =>
      obtain ⟨j, r', hj, rfl, hRj⟩ := hrel
      clear n1 R4
      have RJ := qh hRj
      clear hRj
      have n1 := (RJ.out.en.cell 1).trans (En.qbC _ _)
      by_cases hjl : j < evs.length
      · have hjl8 : (j : Int) < evs.length := by omega
        obtain ⟨ad2, rfl, hb2⟩ := RJ.out.ev.lies.start (by omega)
        have hev := fun i v (hi : i < 4) (hv : (evs[j]).cells[i]? = some v) => RJ.out.ev.lies.cell ad2 rfl (by omega) (j * 4 + i) v (by rw [En.qhS evs j i hjl hi]; exact hv)
        have hvo := OKE.out evs[j] (List.getElem_mem hjl)
        generalize evs[j] = ev at hev hvo
        obtain ⟨r2, code, hcs⟩ := qkD ⟨u.g, r'⟩ ev hvo
        have CE := qh hcs
        have RX := qh (fun X (hX : Below wr.heap.size wr X) => RJ.out.ro.below hX RJ.out.ro.lt)
        have NX := qh (fun X (hX : Below wr.heap.size wr X) => ((RJ.out.en.below hX RJ.out.en.lt).cell 1).trans (En.qbC _ _))
        have EX := qh (fun X (hX : Below wr.heap.size wr X) (i : Nat) (v : Value) (hv : ev.cells[i]? = some v) => (hX.cell (p := (ad2.add (j * 4)).add i) (by rw [add_block, add_block]; exact hb2)).trans (show wr.cell? ((ad2.add (j * 4)).add i) = some v by rw [qct]; exact hev i v (by have := (List.getElem?_eq_some_iff.1 hv).1; exact this) hv))
        clear hcs hvo hev
        go_upto_region 18 with fail
        refine Ry.qaU (by kernel_rfl) [] (by kernel_rfl) (fun X => Below wr.heap.size wr X) (fun X => Below wr.heap.size wr X) (fun _ => True) ((Below.refl _ _).drew) (fun W hW => ⟨hW, trivial⟩) ?_
        repeat (first
         | (apply Ry.qat rfl rfl; focus (intro _; go_simp; first | done | rfl))
         | (apply Ry.qbR rfl rfl rfl rfl; focus (intro W hW; exact qiI rfl rfl (RX.out W hW)))
         | (apply Ry.qbR rfl rfl rfl rfl; focus (intro W hW; exact qgV ev rfl rfl (EX.out W hW)))
         | (apply Ry.qbR rfl rfl rfl rfl; focus (intro W hW; have q0 := NX.out W hW; clear hW; go_simp; first | done | rfl)))
        refine Ry.qbs (C' := fun X => Below wr.heap.size wr X) (v := .tuple #[.agg (Ros.cells r2), .int .i64 code]) (f := 31) (args := #[.agg (Ros.cells r'), .agg #[.int .i64 ev.kind, .int .i64 ev.slot, .int .i64 ev.gen, .int .i64 ev.peer]]) rfl ?_ ?_ ?_ ?_
        · intro Z hZ; clear hZ; go_simp; first | done | rfl | exact ⟨rfl, rfl⟩
        · intro Z hZ
          exact (CE.out Z).mono (fun e w' h => ⟨h.1, hZ.trans (h.2.mono hZ.size)⟩)
        · exact fun Z hZ => ⟨hZ, trivial⟩
        repeat (apply Ry.qat rfl rfl; focus (intro _; go_simp; first | done | rfl))
        refine Ry.qby (C' := fun Y => ∃ X, Below wr.heap.size wr X /\ Y = X.setRow (w0.heap.size + 1) (Ros.cells r2)) (D' := fun _ => True) rfl rfl ?_ (fun _ _ => ⟨trivial, trivial⟩) ?_
        · intro Z hZ
          refine ⟨_, qeh (B := w0.heap.size + 1) (cs := Ros.cells r2) (old := Ros.cells r') rfl ?_ ?_ (RX.out Z hZ) qad (Eq.trans (b := 17) rfl rfl) (qaK _), Z, hZ, rfl⟩ <;> (clear hZ; go_simp; first | done | rfl)
        refine Ry.qbJ fun W3 hW3 => ?_
        obtain ⟨X, hX, rfl⟩ := hW3
        have R6 := qh ((RJ.out.call hX).ros r2)
        clear CE RX NX EX RJ hX n1 hb2
        go_wp2
        go_roundw
        case rel => exact ⟨j + 1, r2, by omega, by go_num, R6.out⟩
        case measure => simp [intOf]; omega
      · have hjl8 : ¬ (j : Int) < evs.length := by omega
        go_upto_region 19 with fail
        clear hjl8 hjl hj n1
        go_wp2
        go_loopw [14] (fun i wr => ∃ (j : Nat) (ps : Nat -> Gm.In), j <= 8 /\ i = .int .i64 j /\ (∀ i, i < 8 -> Gm.tyIn (ps i)) /\ Mr w0 k r' evs ps AE cE wr) (fun i _ => 8 - (intOf i).toNat)
        case atStart => exact ⟨0, Fd.in0, by omega, rfl, qlG, RJ.out⟩
        case round =>
         obtain ⟨i, ps, hi, rfl, hps, hRi⟩ := hrel
         clear RJ
         have RI := qh hRi
         have HPS := qh hps
         clear hRi hps
         by_cases hi8 : i < 8
         · have hi8' : (i : Int) < 8 := by omega
           have c0 := (RI.out.ro.cell (1 + i * 2)).trans (Ros.qaB r' i hi8)
           obtain ⟨pk, hpk⟩ : ∃ pk, pk = r'.peer i := ⟨_, rfl⟩
           rw [<- hpk] at c0
           have ha : ∀ t, (⟨(ad.add (k * 25)).block, (ad.add (k * 25)).off + 1 + i * 3 + t, none⟩ : Addr) = (ad.add (k * 25)).add (1 + i * 3 + t) := fun t => by rw [show 1 + i * 3 + t = (i * 3 + t) + 1 by omega, qot, show (ad.add (k * 25)).off + 1 + i * 3 + t = (ad.add (k * 25)).off + (i * 3 + t + 1) by omega]
           have hx := fun t ht v hv => (congrArg wr.cell? (ha t)).trans (TC.out wr RI.out.below (1 + i * 3 + t) v (by omega) ((Fd.Turn.qc0 q i t hi8 ht).trans hv))
           have htp := HQ.out.2 i hi8
           generalize q.inp i = P at hx htp
           have x0 : wr.cell? ⟨(ad.add (k * 25)).block, (ad.add (k * 25)).off + 1 + i * 3, none⟩ = some (.int .i8 P.x) := hx 0 (by decide) _ rfl
           have x1 : wr.cell? ⟨(ad.add (k * 25)).block, (ad.add (k * 25)).off + 1 + i * 3 + 1, none⟩ = some (.int .i8 P.y) := hx 1 (by decide) _ rfl
           have x2 : wr.cell? ⟨(ad.add (k * 25)).block, (ad.add (k * 25)).off + 1 + i * 3 + 2, none⟩ = some (.int .u8 P.b) := hx 2 (by decide) _ rfl
           obtain ⟨X, Y, B⟩ := P
           dsimp only at x0 x1 x2
           have HTP := qh htp
           clear hx ha hpk htp
           by_cases hp0 : pk < 0
           · go_wp2
             go_roundw
             case rel => exact ⟨i + 1, ps, by omega, by go_num, HPS.out, RI.out⟩
             case measure => simp [intOf]; omega
           · by_cases hxx : X = -128
             · have hxb : (X != -128) = false := by simp [hxx]
               go_wp2
               go_roundw
               case rel => exact ⟨i + 1, ps, by omega, by go_num, HPS.out, RI.out⟩
               case measure => simp [intOf]; omega
             · have hxb : (X != -128) = true := by simpa using hxx
               by_cases hyy : Y = -128
               · have hyb : (Y != -128) = false := by simp [hyy]
                 go_wp2
                 go_roundw
                 case rel => exact ⟨i + 1, ps, by omega, by go_num, HPS.out, RI.out⟩
                 case measure => simp [intOf]; omega
               · have hyb : (Y != -128) = true := by simpa using hyy
                 have R6 := qh (RI.out.inp (En.upd ps i ⟨X, Y, B⟩))
                 go_wp2_with (first | ((with_reducible refine qk4 rfl rfl ?_); apply qiP.mk (u := ⟨X, Y, B⟩) rfl rfl hi8 RI.out.en; dsimp only))
                 go_roundw
                 case rel => exact ⟨i + 1, En.upd ps i ⟨X, Y, B⟩, by omega, by go_num, fun t ht => by (unfold En.upd; split; exact HTP.out; exact HPS.out t ht), R6.out⟩
                 case measure => simp [intOf]; omega
         · obtain rfl : i = 8 := by omega
           have M7 := qh (HM.out.call RI.out.below)
           have szb := HM.out.st.lt
           have hlm : evs.length <= maxLen := by unfold maxLen; omega
           have HLM := qh hlm
           cases hap : Fd.apply u ⟨k, evs, ps⟩ with
           | none =>
            have ca := qh (qhr u ⟨k, evs, ps⟩ A' AE u.g.qaa.length c' evs.length cE wr HF.out.ty (by have := HF.out.few; unfold maxLen; omega) rfl M7.out.sh.lies rfl hlm RI.out.ev.lies HPS.out hap)
            clear hap hlm
            go_wp2_with (first | (with_reducible refine qau rfl rfl ?_) | ((with_reducible refine qam rfl rfl ?_); apply qay.mk rfl; (focus (with_reducible exact M7.out.st)); dsimp only) | ((with_reducible refine qiK rfl rfl ?_); apply qcu.mk rfl; (focus (with_reducible exact RI.out.en)); dsimp only) | (with_reducible refine qa2 rfl rfl rfl rfl Im.qar rfl ?_) | (go_at_call 9; ((with_reducible refine ((ca).out).mono ?_); rintro x w8 ⟨A8, c8, rfl, hL, hb⟩; have M8 := qh ((M7.out.call hb).call (qac w8 (.cells (Im.cells u.g (.slice A8 u.g.qaa.length c8) u.r) 40))); clear hb hL)))
            go_ret
            exact ⟨AO, cO, out, u, rfl, M8.out.lies, M8.out.ty, M8.out.run, by have := HO.out; omega, M8.out.below, M8.out.cap⟩
           | some v =>
            have ca := qh (qfC u v ⟨k, evs, ps⟩ A' AE u.g.qaa.length c' evs.length cE wr HF.out.ty (by have := HF.out.few; unfold maxLen; omega) rfl M7.out.sh.lies rfl hlm RI.out.ev.lies HPS.out hap)
            have HAP := qh hap
            clear hap hlm
            go_upto_region 27 with (first | (with_reducible refine qau rfl rfl ?_) | ((with_reducible refine qam rfl rfl ?_); apply qay.mk rfl; (focus (with_reducible exact M7.out.st)); dsimp only) | ((with_reducible refine qiK rfl rfl ?_); apply qcu.mk rfl; (focus (with_reducible exact RI.out.en)); dsimp only) | (with_reducible refine qa2 rfl rfl rfl rfl Im.qar rfl ?_) | (go_at_call 9; ((with_reducible refine ((ca).out).mono ?_); rintro x w8 ⟨A8, c8, rfl, hL, hT, hb⟩; have L9 := qh ((LT.mk hL hT).call (qac w8 (.cells (Im.cells v.g (.slice A8 v.g.qaa.length c8) v.r) 40))); have M9 := qh ((M7.out.call hb).call (qac w8 (.cells (Im.cells v.g (.slice A8 v.g.qaa.length c8) v.r) 40))); have R9 := qh ((RI.out.call hb).call (qac w8 (.cells (Im.cells v.g (.slice A8 v.g.qaa.length c8) v.r) 40))); have N9 := qh (Box.made w8 40 (Im.cells v.g (.slice A8 v.g.qaa.length c8) v.r)); clear hb hL hT)))
            generalize hW9 : w8.alloc (.cells (Im.cells v.g (.slice A8 v.g.qaa.length c8) v.r) 40) = W9 at L9 M9 R9 N9 ⊢
            generalize w8.heap.size = b9 at N9 ⊢
            clear hW9 ca
            have NX := qh (M9.out.next (q := ⟨⟨k, evs, ps⟩, AE, cE⟩) (c2 := c8) HAP.out L9.out R9.out.ev HLM.out HPS.out)
            have EN := qh (R9.out.en.qa4 (show w0.heap.size ≠ bs by omega) (Im.cells v.g (.slice A8 v.g.qaa.length c8) v.r))
            have BL := qh (Below.setRow' M9.out.below M9.out.far (Im.cells v.g (.slice A8 v.g.qaa.length c8) v.r))
            obtain ⟨i0, hi0, hz0, hz1, hz2⟩ := qph
            have hI := qh hi0
            have hZ := qh hz0
            have hS := qh hz1
            have hY := qh hz2
            have ho100 : out.length <= 100 := by have := HO.out; omega
            clear hi0 hz0 hz1 hz2
            go_wp2_with (first | ((with_reducible refine qam rfl rfl ?_); apply qay.mk rfl; (focus (with_reducible exact N9.out)); dsimp only) | ((with_reducible refine qaE rfl rfl ?_); apply qb4.mk rfl rfl; (focus (with_reducible exact M9.out.st)); (focus (exact Im.qag _ _ _)); (focus rfl)) | ((with_reducible refine qiK rfl rfl ?_); apply qcu.mk rfl; (focus (with_reducible exact EN.out)); dsimp only) | ((with_reducible refine qoi rfl rfl ?_); refine qf7.mk (q := ⟨⟨k, evs, ps⟩, AE, cE⟩) rfl ?_) | ((with_reducible refine qcn (t := 25) (e := 51) (size := 26) (bytes := 56) rfl rfl Tryz.underlying25 hI.out hZ.out hS.out hY.out rfl (by decide) ?_); refine qdJ.mk (base := w.heap.size) (n := out.length) (xs := En.qbr out) (m := 1) (news := En.qbr [⟨⟨k, evs, ps⟩, AE, cE⟩]) rfl NX.out.1 (Lies.qpy (Box.made _ 51 _) rfl) (En.ql4 _) (by unfold maxLen; omega) (by omega) (Nat.le_trans BL.out.size (qac _ _).size) ?_; intro A10 c10 w10 own10 hg10; have M11 := qh (NX.out.2 A10 c10 w10 own10 hg10); clear own10 hg10))
            go_roundw
            case rel => exact ⟨k + 1, v, A8, c8, A10, c10, out ++ [⟨⟨k, evs, ps⟩, AE, cE⟩], by omega, by go_num, by rw [List.length_append]; rfl, by rw [List.length_append, HO.out]; rfl, M11.out⟩
            case measure => simp [intOf]; omega
  · have hk8 : ¬ (k : Int) < n := by omega
    have M7 := qh hM
    clear hM
    go_wp2
    go_ret
    exact ⟨AO, cO, out, u, rfl, M7.out.lies, M7.out.ty, M7.out.run, by have := HO.out; omega, M7.out.below, M7.out.cap⟩
open Go.RowKit Go.Shelf
theorem qhZ {P : Program} {ops : Array Oper} {rest : List Oper} {o : Oper} {a : Act} {w w' : World} {Q : Exit -> Act -> World -> Prop} {x y : Operand} {ts : Array TypeId} {v1 v2 v : Value} (hgd : o.guard = none) (ho : o.op = .call { callee := .builtin .append, args := #[x, y], argTypes := ts }) (hx : a.eval x = v1) (hy : a.eval y = v2) (hr : (Builtin.append_ ts o.type #[v1, v2]).run P w = .ok v w') (h : wpList P ops Q rest (a.put o.dst v) w') : wpList P ops Q (o :: rest) a w := by
 refine wpList_plain hgd fun _ hK => ?_
 unfold Oper.wp
 rw [qfJ ho hx hy hr]
 exact hK _ _ h
def qqf (R : List (Nat × TypeId × Array Value)) (A : Option Addr) (n : Nat) (lo hi : Nat) : Prop :=
 (n = 0 /\ R = []) \/ ∃ g cur, A = some ⟨g, 0, none⟩ /\ R = [(g, 72, cur)] /\ lo <= g /\ g < hi /\ n * 6 <= cur.size
theorem qnA {W : World} {base n c : Nat} {A : Option Addr} {xs : List Value} (h : W.ownsRow base 72 6 (.slice A n c) n xs) : ∃ R, qqf R A n base W.heap.size /\ (∀ p ∈ R, Box W p.1 p.2.1 p.2.2) /\ (∀ p ∈ R, p.2.2.toList.take (n * 6) = xs) := by
 obtain ⟨hl, ⟨e, h0⟩ | ⟨g, cap, cur, e, hb, hg, hc, hm, hs, ht⟩⟩ := h
 · exact ⟨[], .inl ⟨h0, rfl⟩, fun p hp => (nomatch hp), fun p hp => (nomatch hp)⟩
 · injection e with e _ _
   refine ⟨[(g, 72, cur)], .inr ⟨g, cur, e, rfl, hb, (Array.getElem?_eq_some_iff.1 hg).1, by rw [hs]; exact Nat.mul_le_mul_right 6 hc⟩, fun p hp => ?_, fun p hp => ?_⟩
   · obtain rfl := List.mem_singleton.1 hp; exact ⟨hg⟩
   · obtain rfl := List.mem_singleton.1 hp; exact ht
theorem ql5 {W : World} {A : Option Addr} {n lo hi : Nat} {R : List (Nat × TypeId × Array Value)} {l : List Gm.Shot} (h : qqf R A n lo hi) (hn : n = l.length) (hb : ∀ p ∈ R, Box W p.1 p.2.1 p.2.2) (hx : ∀ p ∈ R, p.2.2.toList.take (n * 6) = Gm.qab l) : Lies W W.heap.size 6 A n (Gm.qab l) := by
 rcases h with ⟨rfl, rfl⟩ | ⟨g, cur, rfl, rfl, _, _, hs⟩
 · have : l = [] := List.eq_nil_of_length_eq_zero hn.symm
   subst this
   exact Lies.none_
 · have h1 : Box W g 72 cur := hb _ (List.mem_singleton_self _)
   have h2 : cur.toList.take (n * 6) = Gm.qab l := hx _ (List.mem_singleton_self _)
   have hl : (Gm.qab l).length = n * 6 := by
    have := congrArg List.length h2
    rw [List.length_take, Array.length_toList] at this
    omega
   refine ⟨hl, fun _ => ⟨_, rfl, h1.lt⟩, fun ad e _ j u hj => ?_⟩
   injection e with e
   subst e
   rw [Addr.add_lit, Nat.zero_add, h1.cell j]
   rw [<- h2] at hj
   have hjl : j < n * 6 := by have := (List.getElem?_eq_some_iff.1 hj).1; rw [List.length_take] at this; omega
   rw [List.getElem?_take, if_pos hjl, Array.getElem?_toList] at hj
   exact hj
theorem qnf {s : Fd.S} {X X' : World} {e : Ending} (h : qhe s X e X') : ∃ A c R, e = .returned (.tuple #[.agg (Im.cells s.g (.slice A s.g.qaa.length c) s.r), .bool true]) /\ qqf R A s.g.qaa.length X.heap.size X'.heap.size /\ (∀ p ∈ R, Box X' p.1 p.2.1 p.2.2 /\ X.heap.size <= p.1) /\ (∀ p ∈ R, p.2.2.toList.take (s.g.qaa.length * 6) = Gm.qab s.g.qaa) /\ Below X.heap.size X X' := by
 obtain ⟨A, c, rfl, _, ho, hb⟩ := h
 by_cases h0 : s.g.qaa.length = 0
 · exact ⟨A, c, [], rfl, .inl ⟨h0, rfl⟩, fun p hp => (nomatch hp), fun p hp => (nomatch hp), hb⟩
 · obtain ⟨R, h1, h2, h3⟩ := qnA (ho h0)
   refine ⟨A, c, R, rfl, h1, fun p hp => ⟨h2 p hp, ?_⟩, h3, hb⟩
   rcases h1 with ⟨_, rfl⟩ | ⟨g, cur, _, rfl, hg, _⟩
   · cases hp
   · obtain rfl := List.mem_singleton.1 hp; exact hg
section
variable {LP : qdG} {w : World} {Br : Nat} {M M' : List Fd.S} {L : List Rg.St} {AO : Option Addr} {cO bs : Nat} {q : Rg.St} {G : Nat -> Prop} {X X' : World}
theorem qdq.ask (h : qdq LP w Br M L AO cO bs q G X) (hh : P15 LP w Br M G X') (hb : Below X.heap.size X X') : qdq LP w Br M L AO cO bs q G X' := h.kept hh hb.size (fun _ h => h) fun j hj => hb.block j (h.hold.lt hj).2
def AllX (LP : qdG) (w : World) (Br : Nat) (M : List Fd.S) (L : List Rg.St) (AO : Option Addr) (cO bs : Nat) (X : World) : Prop := ∃ q G, qdq LP w Br M L AO cO bs q G X
theorem AllX.down (h : AllX LP w Br M L AO cO bs X) : Below w.heap.size w X := by obtain ⟨q, G, h⟩ := h; exact h.hold.down
theorem AllX.row (h : AllX LP w Br M L AO cO bs X) : qdU X AO L.length L := by
 obtain ⟨q, G, h⟩ := h
 exact ⟨rfl, Lies.owned h.row, fun x hx => (h.sh x hx).1⟩
theorem AllX.says (h : AllX LP w Br M L AO cO bs X) {r : Value} {e : Ending} (C : qhg LP) (hs : ∀ F, LP w.heap.size F Br M X -> qj5 LP w.heap.size F Br M' r X e X') : e = .returned r /\ AllX LP w Br M' L AO cO bs X' := by
 obtain ⟨q, G, h⟩ := h
 obtain ⟨F, f1, f2, f3⟩ := id h.hold
 have hh := hs F f1
 obtain ⟨a, b, c⟩ := qbd.says C.ob f1 f2 f3 hh
 obtain ⟨_, _, _, _, hK⟩ := hh
 exact ⟨a, q, G, h.says b c hK.size⟩
variable (C : qhg LP)
include C
theorem AllX.call (h : AllX LP w Br M L AO cO bs X) (hb : Below X.heap.size X X') : AllX LP w Br M L AO cO bs X' := by
 obtain ⟨q, G, h⟩ := h
 exact ⟨q, _, h.call C.ob hb⟩
theorem AllX.len (ho : Rg.Ok M) (h : AllX LP w Br M L AO cO bs X) :
 Calls Tryz.prog 22 #[.pointer (some ⟨Br, 0, none⟩)] X fun e X' => e = .returned (.int .i64 (M.length : Nat)) /\ AllX LP w Br M L AO cO bs X' := by
 obtain ⟨q, G, h⟩ := h
 exact (P15.len C ho h.hold).mono fun e X' hh => ⟨hh.1, q, G, h.ask hh.2.1 hh.2.2⟩
theorem AllX.first (ho : Rg.Ok M) (h : AllX LP w Br M L AO cO bs X) :
 Calls Tryz.prog 23 #[.pointer (some ⟨Br, 0, none⟩)] X fun e X' => e = .returned (.int .i64 (Rg.first M)) /\ AllX LP w Br M L AO cO bs X' := by
 obtain ⟨q, G, h⟩ := h
 exact (P15.first C ho h.hold).mono fun e X' hh => ⟨hh.1, q, G, h.ask hh.2.1 hh.2.2⟩
theorem AllX.last (ho : Rg.Ok M) (h : AllX LP w Br M L AO cO bs X) :
 Calls Tryz.prog 24 #[.pointer (some ⟨Br, 0, none⟩)] X fun e X' => e = .returned (.int .i64 (Rg.last M)) /\ AllX LP w Br M L AO cO bs X' := by
 obtain ⟨q, G, h⟩ := h
 exact (P15.last C ho h.hold).mono fun e X' hh => ⟨hh.1, q, G, h.ask hh.2.1 hh.2.2⟩
theorem AllX.cut (ho : Rg.Ok M) (f : Int) (hf : -9223372036854775808 <= f /\ f <= 9223372036854775807) (h : AllX LP w Br M L AO cO bs X) :
 Calls Tryz.prog 15 #[.pointer (some ⟨Br, 0, none⟩), .int .i64 f] X fun e X' => e = .returned (.bool (Rg.hasB M f)) /\ AllX LP w Br (Rg.cut M f) L AO cO bs X' := by
 obtain ⟨q, G, h⟩ := h
 obtain ⟨F, f1, f2, f3⟩ := id h.hold
 exact (C.cut _ F Br M ho f hf X f1 f3.size).mono fun e X' hh => by
  obtain ⟨a, b, c⟩ := qbd.says C.ob f1 f2 f3 hh
  obtain ⟨_, _, _, _, hK⟩ := hh
  exact ⟨a, q, G, h.says b c hK.size⟩
theorem AllX.drop (ho : Rg.Ok M) (f : Int) (hf : -9223372036854775808 <= f /\ f <= 9223372036854775807) (h : AllX LP w Br M L AO cO bs X) :
 Calls Tryz.prog 17 #[.pointer (some ⟨Br, 0, none⟩), .int .i64 f] X fun e X' => e = .returned (.bool (Rg.hasB M f)) /\ AllX LP w Br (Rg.drop M f) L AO cO bs X' := by
 obtain ⟨q, G, h⟩ := h
 obtain ⟨F, f1, f2, f3⟩ := id h.hold
 exact (C.drop _ F Br M ho f hf X f1 f3.size).mono fun e X' hh => by
  obtain ⟨a, b, c⟩ := qbd.says C.ob f1 f2 f3 hh
  obtain ⟨_, _, _, _, hK⟩ := hh
  exact ⟨a, q, G, h.says b c hK.size⟩
theorem AllX.qe0 (ho : Rg.Ok M) (f : Int) (s : Fd.S) (hs : Rg.at_ M f = some s) (h : AllX LP w Br M L AO cO bs X) :
 Calls Tryz.prog 19 #[.pointer (some ⟨Br, 0, none⟩), .int .i64 f] X fun e X' => qhe s X e X' /\ AllX LP w Br M L AO cO bs X' := by
 obtain ⟨q, G, h⟩ := h
 exact (P15.qe0 C ho f s hs h.hold).mono fun e X' hh => ⟨hh.1, q, G, h.ask hh.2 (by obtain ⟨_, _, _, _, _, hb⟩ := hh.1; exact hb)⟩
theorem AllX.qiO (ho : Rg.Ok M) (f : Int) (hf : -9223372036854775808 <= f /\ f <= 9223372036854775807) (hs : Rg.at_ M f = none) (h : AllX LP w Br M L AO cO bs X) :
 Calls Tryz.prog 19 #[.pointer (some ⟨Br, 0, none⟩), .int .i64 f] X fun e X' => e = .returned (.tuple #[.agg Im.zero, .bool false]) /\ AllX LP w Br M L AO cO bs X' := by
 obtain ⟨q, G, h⟩ := h
 exact (P15.qiO C ho f hf hs h.hold).mono fun e X' hh => ⟨hh.1, q, G, h.ask hh.2.1 hh.2.2⟩
end
end Go.Proofs.YtbdlpbnfcnhajaaGreat
namespace Go.Proofs.YtbdlpbnfcnhajaaGreat.Rg
open Go.RowKit
noncomputable def stAt (d : Int) (l : List En.E) (j : Nat) : Fd.S := (Fd.run (Fd.start d) (l.take j)).getD (Fd.start d)
section
variable {d : Int} {l : List En.E} {u : Fd.S} (h : Fd.run (Fd.start d) l = Option.some u)
include h
theorem qh6 (j : Nat) : Fd.run (Fd.start d) (l.take j) = Option.some (stAt d l j) := by
 unfold stAt
 rw [<- List.take_append_drop j l, Fd.qfb] at h
 cases h1 : Fd.run (Fd.start d) (l.take j) with
 | none => rw [h1] at h; cases h
 | some v => rfl
end
theorem qnm {d : Int} {l : List En.E} {u : Fd.S} (hd : 0 <= d /\ d <= 18446744073709551615) (h : Fd.run (Fd.start d) l = Option.some u) (j : Nat) : Fd.Fine (stAt d l j) := ((Fd.qbN hd).run (qh6 h j)).1
theorem qlV {d : Int} {l : List En.E} {u : Fd.S} (hd : 0 <= d /\ d <= 18446744073709551615) (h : Fd.run (Fd.start d) l = Option.some u) (j : Nat) (hj : j <= l.length) : (stAt d l j).g.frame = j := by
 have := ((Fd.qbN hd).run (qh6 h j)).2
 rw [this, show (Fd.start d).g.frame = 0 from rfl, List.length_take]
 omega
section
variable {d : Int} {l : List En.E} {u : Fd.S} (h : Fd.run (Fd.start d) l = Option.some u)
include h
theorem qnl (j : Nat) (hj : j < l.length) : Fd.apply (stAt d l j) l[j] = Option.some (stAt d l (j + 1)) := by
 have h1 := qh6 h j
 have h2 := qh6 h (j + 1)
 rw [Fd.qoQ _ _ _ hj, h1] at h2
 exact h2
end
structure Line (S : Nat -> Fd.S) (N : Nat) : Prop where
 fine : ∀ j, j <= N -> Fd.Fine (S j)
 frame : ∀ j, j <= N -> (S j).g.frame = (j : Int)
def qho (S : Nat -> Fd.S) (a k : Nat) : List Fd.S := (List.range' a k).map S
section
variable {S : Nat -> Fd.S} {N a k : Nat}
theorem qi8 : (qho S a k).length = k := by unfold qho; rw [List.length_map, List.length_range']
theorem qlr {i : Nat} (h : i < k) : (qho S a k)[i]? = Option.some (S (a + i)) := by
 unfold qho
 rw [List.getElem?_map, List.getElem?_range' (by omega)]
 simp
theorem qmb : qho S 0 (k + 1) = qho S 0 k ++ [S k] := by
 unfold qho
 rw [List.range'_concat, List.map_append]
 simp
end
end Go.Proofs.YtbdlpbnfcnhajaaGreat.Rg
namespace Go.Proofs.YtbdlpbnfcnhajaaGreat
open Go Go.RowKit
structure qm3 (w : World) (b : Nat) (A : Option Addr) (l : List Gm.Shot) : Prop where
 lies : Lies w w.heap.size 6 A l.length (Gm.qab l)
 new : New6 b A l.length
theorem qm3.call {w w' : World} {b : Nat} {A : Option Addr} {l : List Gm.Shot} (h : qm3 w b A l) (hb : Below w.heap.size w w') : qm3 w' b A l := ⟨h.lies.call hb, h.new⟩
theorem qm3.qbk {w : World} {b n BG m : Nat} {A A' : Option Addr} {c : Nat} {l : List Gm.Shot} {g : Gm.G} {r : Ros.R} (h : qm3 w b A l) (hn : n = l.length) (hB : Box w BG 40 (Im.cells g (.slice A' m c) r)) (cs : Array Value) : qm3 (w.setRow BG cs) b A l := ⟨h.lies.qbk rfl hB cs, h.new⟩
section
variable {G : Gm.G} {r : Ros.R} {code : Int} {b k : Nat} {vm vm' : Nat -> Value} {w w' : World}
end
open Go.RowKit Go.Shelf
structure Rb (LP : qdG) (w : World) (Br : Nat) (S : Nat -> Fd.S) (bs k : Nat) (L : List Rg.St) (AO : Option Addr) (cO : Nat) (X : World) : Prop where
 ex : ∃ q G, qdq LP w Br (Rg.qho S 0 (min k 8 + 1)) L AO cO bs q G X /\ q.s = S k /\ (∀ g, (Value.slice AO L.length cO).ownBlock = some g -> q.g.qaa.length ≠ 0 -> ∀ ad, q.A = some ad -> ad.block ≠ g)
 all : L.map Rg.St.s = Rg.qho S 0 (k + 1)
theorem Rb.len {LP : qdG} {w : World} {Br : Nat} {S : Nat -> Fd.S} {bs k : Nat} {L : List Rg.St} {AO : Option Addr} {cO : Nat} {X : World} (h : Rb LP w Br S bs k L AO cO X) : L.length = k + 1 := by
 have := congrArg List.length h.all
 rwa [List.length_map, Rg.qi8] at this
def q00 (d : Int) : Rg.St := ⟨Gm.new d, Ros.new, none, 0⟩
open Go.ChangeShapes Go.WideShapes Go.ChangeAt Go.RowKit Go.Joins Go.ChangeMaps Go.Deep
def Ros.ty (r : Ros.R) : Prop := (-9223372036854775808 <= r.version /\ r.version <= 9223372036854775807) /\ ∀ k, k < 8 -> (-9223372036854775808 <= r.peer k /\ r.peer k <= 9223372036854775807) /\ (-9223372036854775808 <= r.gen k /\ r.gen k <= 9223372036854775807)
theorem qqK {α : Type} (l : List α) (h : l.length = 16) : l = (l.drop (0 * 2)).take 2 ++ ((l.drop (1 * 2)).take 2 ++ ((l.drop (2 * 2)).take 2 ++ ((l.drop (3 * 2)).take 2 ++ ((l.drop (4 * 2)).take 2 ++ ((l.drop (5 * 2)).take 2 ++ ((l.drop (6 * 2)).take 2 ++ ((l.drop (7 * 2)).take 2))))))) := by
 match l, h with
 | [a0, a1, a2, a3, a4, a5, a6, a7, a8, a9, a10, a11, a12, a13, a14, a15], _ => rfl
section
variable {H : Type} {enc : TypeId × Value -> H} {w : World} {base : Nat} {spare : Nat -> Bool} {held : Bool}
theorem qnd {fuel : Nat} {a b : Value} {y : DataW H × List MemPlace} (h : DataW.trod enc Tryz.prog w base spare held fuel 35 [a, b] = some y) : ∃ p g : Int, [a, b] = [.int .i64 p, .int .i64 g] /\ ((-9223372036854775808 <= p /\ p <= 9223372036854775807) /\ (-9223372036854775808 <= g /\ g <= 9223372036854775807)) /\ y.2 = [] := by
 obtain ⟨y0, y1, n, hx, _, h0, h1⟩ := trod_struct2 Tryz.underlying35 h
 obtain ⟨x0, e0, rfl, w0⟩ := DataW.trod_int Tryz.underlying3 h0
 obtain ⟨x1, e1, rfl, w1⟩ := DataW.trod_int Tryz.underlying3 h1
 have c8 : Tryz.prog.cellsOf 3 = 1 := by kernel_rfl
 simp [c8] at e0 e1
 subst e0 e1
 exact ⟨x0, x1, rfl, ⟨Bd.i64 w0, Bd.i64 w1⟩, by rw [hx]; rfl⟩
theorem qlU {fuel : Nat} {l : List Value} {y : DataW H × List MemPlace} (hl : l.length = 16) (h : DataW.trod enc Tryz.prog w base spare held fuel 36 l = some y) :
 ∃ f g : Nat -> Int, (∀ v, l = Ros.qbl ⟨v, f, g⟩) /\ (∀ k, k < 8 -> (-9223372036854775808 <= f k /\ f k <= 9223372036854775807) /\ (-9223372036854775808 <= g k /\ g k <= 9223372036854775807)) /\ y.2 = [] := by
 obtain ⟨xs, m, rfl, hx, _, hn, he⟩ := DataW.trod_array Tryz.underlying36 h
 have c2 : Tryz.prog.cellsOf 35 = 2 := by kernel_rfl
 simp only [c2] at he
 have key : ∀ i, i < 8 -> ∃ q : Int × Int, (l.drop (i * 2)).take 2 = [.int .i64 q.1, .int .i64 q.2] /\ ((-9223372036854775808 <= q.1 /\ q.1 <= 9223372036854775807) /\ (-9223372036854775808 <= q.2 /\ q.2 <= 9223372036854775807)) /\ ∀ y, xs[i]? = some y -> y.2 = [] := by
  intro i hi
  have hlen : ((l.drop (i * 2)).take 2).length = 2 := by simp; omega
  obtain ⟨y, hy⟩ : ∃ y, xs[i]? = some y := ⟨xs[i]'(by omega), List.getElem?_eq_getElem (by omega)⟩
  have h : DataW.trod enc Tryz.prog w base spare held m 35 ((l.drop (i * 2)).take 2) = xs[i]? := he i hi
  rw [hy] at h
  match hq : (l.drop (i * 2)).take 2, hlen with
  | [a, b], _ =>
   rw [hq] at h
   obtain ⟨p, g, h1, h2, h3⟩ := qnd h
   exact ⟨(p, g), h1, h2, fun z hz => by rw [hy] at hz; cases hz; exact h3⟩
 have hch : ∃ ps : Nat -> Int × Int, ∀ i, i < 8 -> ((l.drop (i * 2)).take 2 = [.int .i64 (ps i).1, .int .i64 (ps i).2] /\ ((-9223372036854775808 <= (ps i).1 /\ (ps i).1 <= 9223372036854775807) /\ (-9223372036854775808 <= (ps i).2 /\ (ps i).2 <= 9223372036854775807)) /\ ∀ y, xs[i]? = some y -> y.2 = []) :=
  ⟨fun i => if h : i < 8 then (key i h).choose else (0, 0), fun i hi => by dsimp only; rw [dif_pos hi]; exact (key i hi).choose_spec⟩
 obtain ⟨ps, hps⟩ := hch
 refine ⟨fun k => (ps k).1, fun k => (ps k).2, fun v => ?_, fun i hi => (hps i hi).2.1, ?_⟩
 · rw [qqK l hl]
   unfold Ros.qbl Ros.pair
   rw [(hps 0 (by decide)).1, (hps 1 (by decide)).1, (hps 2 (by decide)).1, (hps 3 (by decide)).1, (hps 4 (by decide)).1, (hps 5 (by decide)).1, (hps 6 (by decide)).1, (hps 7 (by decide)).1]
 · rw [hx]
   apply List.flatMap_eq_nil_iff.2
   intro y hy
   obtain ⟨i, hi, rfl⟩ := List.getElem_of_mem hy
   exact (hps i (by omega)).2.2 _ (List.getElem?_eq_getElem hi)
theorem qoA {fuel : Nat} {l : List Value} {y : DataW H × List MemPlace} (hl : l.length = 17) (h : DataW.trod enc Tryz.prog w base spare held fuel 38 l = some y) : ∃ r : Ros.R, l.toArray = Ros.cells r /\ Ros.ty r /\ y.2 = [] := by
 obtain ⟨y0, y1, n, hx, _, h0, h1⟩ := trod_struct2 Tryz.underlying38 h
 obtain ⟨x0, e0, rfl, w0⟩ := DataW.trod_int Tryz.underlying3 h0
 have c8 : Tryz.prog.cellsOf 3 = 1 := by kernel_rfl
 have c16 : Tryz.prog.cellsOf 36 = 16 := by kernel_rfl
 simp only [c16] at h1
 obtain ⟨f, g, h2, h3, h4⟩ := qlU (by simp; omega) h1
 simp only [c8] at e0
 refine ⟨⟨x0, f, g⟩, ?_, ⟨Bd.i64 w0, h3⟩, by rw [hx, h4]; rfl⟩
 match l, hl with
 | a :: t, hl =>
  have ht : t = Ros.qbl ⟨x0, f, g⟩ := by
   rw [<- h2 x0]
   have : t.length = 16 := by simpa using hl
   simp [List.take_of_length_le, this]
  simp at e0
  subst e0
  rw [ht]; rfl
end
theorem qdo {α : Type} (l : List α) (a b : Nat) : l.drop a = (l.drop a).take b ++ l.drop (a + b) := by
 have := (List.take_append_drop b (l.drop a)).symm
 rwa [List.drop_drop] at this
theorem qiM {α : Type} (l : List α) (a b : Nat) (h : l.length = a + b) : l.drop a = (l.drop a).take b := by
 rw [List.take_of_length_le (by simp; omega)]
section
variable {H : Type} {enc : TypeId × Value -> H} {w : World} {base : Nat} {spare : Nat -> Bool} {held : Bool}
theorem qnc {fuel : Nat} {l : List Value} {y : DataW H × List MemPlace} (hl : l.length = 7) (h : DataW.trod enc Tryz.prog w base spare held fuel 29 l = some y) : ∃ s : Gm.Ship, l = s.cells /\ Gm.qcM s := by
 obtain ⟨xs, n, _, _, _, hlen, hf⟩ := DataW.trod_struct Tryz.underlying29 h
 have cb : Tryz.prog.cellsOf 4 = 1 := by kernel_rfl
 have c32 : Tryz.prog.cellsOf 21 = 1 := by kernel_rfl
 have ci : Tryz.prog.cellsOf 3 = 1 := by kernel_rfl
 match l, hl, xs, hlen with
 | [a0, a1, a2, a3, a4, a5, a6], _, [y0, y1, y2, y3, y4, y5, y6], _ =>
  obtain ⟨x0, e0, _⟩ := DataW.trod_bool Tryz.underlying4 (hf 0 _ rfl)
  obtain ⟨x1, e1, _, w1⟩ := DataW.trod_int Tryz.underlying21 (hf 1 _ rfl)
  obtain ⟨x2, e2, _, w2⟩ := DataW.trod_int Tryz.underlying21 (hf 2 _ rfl)
  obtain ⟨x3, e3, _, w3⟩ := DataW.trod_int Tryz.underlying21 (hf 3 _ rfl)
  obtain ⟨x4, e4, _, w4⟩ := DataW.trod_int Tryz.underlying21 (hf 4 _ rfl)
  obtain ⟨x5, e5, _, w5⟩ := DataW.trod_int Tryz.underlying3 (hf 5 _ rfl)
  obtain ⟨x6, e6, _, w6⟩ := DataW.trod_int Tryz.underlying3 (hf 6 _ rfl)
  simp [cb, c32, ci] at e0 e1 e2 e3 e4 e5 e6
  subst e0 e1 e2 e3 e4 e5 e6
  exact ⟨⟨x0, x1, x2, x3, x4, x5, x6⟩, rfl, Bd.i32 w1, Bd.i32 w2, Bd.i32 w3, Bd.i32 w4, Bd.i64 w5, Bd.i64 w6⟩
theorem qnb {base : Nat} {spare : Nat -> Bool} {held : Bool} {fuel : Nat} {l : List Value} {y : DataW H × List MemPlace} (hl : l.length = 6) (h : DataW.trod enc Tryz.prog w base spare held fuel 72 l = some y) : ∃ s : Gm.Shot, l = s.cells /\ Gm.qde s := by
 obtain ⟨xs, n, _, _, _, hlen, hf⟩ := DataW.trod_struct Tryz.underlying72 h
 have c32 : Tryz.prog.cellsOf 21 = 1 := by kernel_rfl
 have ci : Tryz.prog.cellsOf 3 = 1 := by kernel_rfl
 match l, hl, xs, hlen with
 | [a0, a1, a2, a3, a4, a5], _, [y0, y1, y2, y3, y4, y5], _ =>
  obtain ⟨x0, e0, _, w0⟩ := DataW.trod_int Tryz.underlying3 (hf 0 _ rfl)
  obtain ⟨x1, e1, _, w1⟩ := DataW.trod_int Tryz.underlying21 (hf 1 _ rfl)
  obtain ⟨x2, e2, _, w2⟩ := DataW.trod_int Tryz.underlying21 (hf 2 _ rfl)
  obtain ⟨x3, e3, _, w3⟩ := DataW.trod_int Tryz.underlying21 (hf 3 _ rfl)
  obtain ⟨x4, e4, _, w4⟩ := DataW.trod_int Tryz.underlying21 (hf 4 _ rfl)
  obtain ⟨x5, e5, _, w5⟩ := DataW.trod_int Tryz.underlying3 (hf 5 _ rfl)
  simp [c32, ci] at e0 e1 e2 e3 e4 e5
  subst e0 e1 e2 e3 e4 e5
  exact ⟨⟨x0, x1, x2, x3, x4, x5⟩, rfl, Bd.i64 w0, Bd.i32 w1, Bd.i32 w2, Bd.i32 w3, Bd.i32 w4, Bd.i64 w5⟩
theorem qlT {fuel : Nat} {l : List Value} {y : DataW H × List MemPlace} (hl : l.length = 56) (h : DataW.trod enc Tryz.prog w base spare held fuel 30 l = some y) :
 ∃ f : Nat -> Gm.Ship, l = Gm.qax f /\ ∀ k, k < 8 -> Gm.qcM (f k) := by
 obtain ⟨xs, m, _, _, _, hn, he⟩ := DataW.trod_array Tryz.underlying30 h
 have c7 : Tryz.prog.cellsOf 29 = 7 := by kernel_rfl
 simp only [c7] at he
 have key : ∀ i, i < 8 -> ∃ s : Gm.Ship, (l.drop (i * 7)).take 7 = s.cells /\ Gm.qcM s := by
  intro i hi
  have hlen : ((l.drop (i * 7)).take 7).length = 7 := by simp; omega
  obtain ⟨y, hy⟩ : ∃ y, xs[i]? = some y := ⟨xs[i]'(by omega), List.getElem?_eq_getElem (by omega)⟩
  have h := he i hi
  rw [hy] at h
  exact qnc hlen h
 have hch : ∃ ps : Nat -> Gm.Ship, ∀ i, i < 8 -> ((l.drop (i * 7)).take 7 = (ps i).cells /\ Gm.qcM (ps i)) :=
  ⟨fun i => if h : i < 8 then (key i h).choose else Gm.Ship.none, fun i hi => by dsimp only; rw [dif_pos hi]; exact (key i hi).choose_spec⟩
 obtain ⟨ps, hps⟩ := hch
 refine ⟨ps, ?_, fun i hi => (hps i hi).2⟩
 have q7 : l.drop (7 * 7) = (ps 7).cells := (qiM l (7 * 7) 7 (by omega)).trans (hps 7 (by omega)).1
 have q6 : l.drop (6 * 7) = (ps 6).cells ++ (ps 7).cells := by rw [<- q7, <- (hps 6 (by omega)).1]; exact qdo l (6 * 7) 7
 have q5 : l.drop (5 * 7) = (ps 5).cells ++ ((ps 6).cells ++ (ps 7).cells) := by rw [<- q6, <- (hps 5 (by omega)).1]; exact qdo l (5 * 7) 7
 have q4 : l.drop (4 * 7) = (ps 4).cells ++ ((ps 5).cells ++ ((ps 6).cells ++ (ps 7).cells)) := by rw [<- q5, <- (hps 4 (by omega)).1]; exact qdo l (4 * 7) 7
 have q3 : l.drop (3 * 7) = (ps 3).cells ++ ((ps 4).cells ++ ((ps 5).cells ++ ((ps 6).cells ++ (ps 7).cells))) := by rw [<- q4, <- (hps 3 (by omega)).1]; exact qdo l (3 * 7) 7
 have q2 : l.drop (2 * 7) = (ps 2).cells ++ ((ps 3).cells ++ ((ps 4).cells ++ ((ps 5).cells ++ ((ps 6).cells ++ (ps 7).cells)))) := by rw [<- q3, <- (hps 2 (by omega)).1]; exact qdo l (2 * 7) 7
 have q1 : l.drop (1 * 7) = (ps 1).cells ++ ((ps 2).cells ++ ((ps 3).cells ++ ((ps 4).cells ++ ((ps 5).cells ++ ((ps 6).cells ++ (ps 7).cells))))) := by rw [<- q2, <- (hps 1 (by omega)).1]; exact qdo l (1 * 7) 7
 have q0 : l.drop (0 * 7) = (ps 0).cells ++ ((ps 1).cells ++ ((ps 2).cells ++ ((ps 3).cells ++ ((ps 4).cells ++ ((ps 5).cells ++ ((ps 6).cells ++ (ps 7).cells)))))) := by rw [<- q1, <- (hps 0 (by omega)).1]; exact qdo l (0 * 7) 7
 exact q0
theorem qne {fuel : Nat} {l : List Value} {y : DataW H × List MemPlace} (hl : l.length = 59) (h : DataW.trod enc Tryz.prog w base spare held fuel 33 l = some y) :
 ∃ (g : Gm.G) (A : Option Addr) (c : Nat), l.toArray = Gm.cells g (.slice A g.qaa.length c) /\ Gm.ty g /\ g.qaa.length <= maxLen /\ Lies w w.heap.size 6 A g.qaa.length (Gm.qab g.qaa) := by
 obtain ⟨y0, y1, y2, y3, n, _, _, h0, h1, h2, h3⟩ := trod_struct4 Tryz.underlying33 h
 have ci : Tryz.prog.cellsOf 3 = 1 := by kernel_rfl
 have cu : Tryz.prog.cellsOf 27 = 1 := by kernel_rfl
 have cs8 : Tryz.prog.cellsOf 30 = 56 := by kernel_rfl
 have csl : Tryz.prog.cellsOf 31 = 1 := by kernel_rfl
 have c6 : Tryz.prog.cellsOf 72 = 6 := by kernel_rfl
 obtain ⟨x0, e0, _, w0⟩ := DataW.trod_int Tryz.underlying3 h0
 obtain ⟨x1, e1, _, w1⟩ := DataW.trod_int Tryz.underlying27 h1
 simp only [cs8] at h2
 obtain ⟨f, e2, hty⟩ := qlT (by simp; omega) h2
 simp only [csl] at h3
 have hlen3 : ((l.drop 58).take 1).length = 1 := by simp; omega
 obtain ⟨u, hu⟩ : ∃ u, (l.drop 58).take 1 = [u] := by
  match hq : (l.drop 58).take 1, hlen3 with
  | [u], _ => exact ⟨u, rfl⟩
 have h3' : DataW.trod enc Tryz.prog w base spare held n 31 [u] = some y3 := by rw [<- hu]; exact h3
 have hsl : ∃ a m k, u = .slice a m k := by
  rcases DataW.trod_slice Tryz.underlying31 h3' with ⟨hv, _⟩ | ⟨a, len, cap, elems, rest, k, _, hv, _⟩
  · injection hv with hv; exact ⟨_, _, _, hv⟩
  · injection hv with hv; exact ⟨_, _, _, hv⟩
 obtain ⟨a, m, k, rfl⟩ := hsl
 obtain ⟨A, c, qaa, ev, ht, hm, hL⟩ := open_slice (enc := enc) (w := w) (base := base) (spare := spare) (held := held) Gm.Shot.cells 6 Gm.qde ⟨0, 0, 0, 0, 0, 0⟩ Tryz.underlying31 c6 (by decide) (fun _ => rfl) (fun hl ht => qnb hl ht) (v := .slice a m k) (d := y3.1) (p := y3.2) (fun cs e => by cases e) ⟨n, h3'⟩
 refine ⟨⟨x0, x1, f, qaa⟩, A, c, ?_, ⟨Bd.i64 w0, by have := Bd.u64 w1; omega, hty, fun i hi => ht _ (List.getElem_mem hi)⟩, hm, hL⟩
 have e0' : (l.drop 0).take 1 = [Value.int .i64 x0] := by rw [<- e0, ci]
 have e1' : (l.drop 1).take 1 = [Value.int .u64 x1] := by rw [<- e1, cu]
 have e2' : (l.drop 2).take 56 = Gm.qax f := e2
 have q3 : l.drop 58 = [Value.slice A qaa.length c] := by rw [<- ev, <- hu]; exact qiM l 58 1 (by omega)
 have q2 : l.drop 2 = Gm.qax f ++ [Value.slice A qaa.length c] := by rw [<- q3, <- e2']; exact qdo l 2 56
 have q1 : l.drop 1 = [Value.int .u64 x1] ++ (Gm.qax f ++ [Value.slice A qaa.length c]) := by rw [<- q2, <- e1']; exact qdo l 1 1
 have q0 : l.drop 0 = [Value.int .i64 x0] ++ ([Value.int .u64 x1] ++ (Gm.qax f ++ [Value.slice A qaa.length c])) := by rw [<- q1, <- e0']; exact qdo l 0 1
 have ql : l = [Value.int .i64 x0] ++ ([Value.int .u64 x1] ++ (Gm.qax f ++ [Value.slice A qaa.length c])) := q0
 rw [ql]
 rfl
end
structure Rg.Stp where
 kind : Int
 n : Int
 s : Rg.St
def Rg.Stp.cells (o : Rg.Stp) : List Value := .int .i64 o.kind :: .int .i64 o.n :: o.s.cells
theorem Rg.Stp.len (o : Rg.Stp) : o.cells.length = 78 := by
 show o.s.cells.length + 1 + 1 = 78
 rw [Rg.St.len]
def Rg.Stp.ty (o : Rg.Stp) : Prop := (-9223372036854775808 <= o.kind /\ o.kind <= 9223372036854775807) /\ (-9223372036854775808 <= o.n /\ o.n <= 9223372036854775807) /\ Gm.ty o.s.g
theorem Rg.Stp.at_2 (o : Rg.Stp) (j : Nat) : o.cells[2 + j]? = o.s.cells[j]? := by
 show (Value.int .i64 o.kind :: Value.int .i64 o.n :: o.s.cells)[2 + j]? = _
 rw [show 2 + j = (j + 1) + 1 by omega, List.getElem?_cons_succ, List.getElem?_cons_succ]
structure qhi (w : World) (B : Nat) (A : Option Addr) (n : Nat) (l : List Rg.Stp) : Prop where
 row : Lies w B 78 A n (l.flatMap Rg.Stp.cells)
 each : ∀ o ∈ l, Lies w B 6 o.s.A o.s.g.qaa.length (Gm.qab o.s.g.qaa)
 few : ∀ o ∈ l, o.s.g.qaa.length <= maxLen
section
variable {w w' : World} {B B' n : Nat} {A : Option Addr} {l : List Rg.Stp}
theorem qhi.below (h : qhi w B A n l) (hb : Below B w w') : qhi w' B A n l := ⟨h.row.below hb, fun q hq => (h.each q hq).below hb, h.few⟩
theorem qhi.wider (h : qhi w B A n l) (hB : B <= B') : qhi w B' A n l := ⟨h.row.wider hB, fun q hq => (h.each q hq).wider hB, h.few⟩
theorem qhi.at (h : qhi w B A n l) (hn : n = l.length) (k : Nat) (hk : k < l.length) : ∃ ad, A = some ad /\ ad.block < B /\ ∀ j v, l[k].cells[j]? = some v -> w.cell? ((ad.add (k * 78)).add j) = some v := by
 obtain ⟨ad, rfl, hb⟩ := h.row.start (by omega)
 refine ⟨ad, rfl, hb, fun j v hv => ?_⟩
 have hj : j < 78 := by have := (List.getElem?_eq_some_iff.1 hv).1; rwa [Rg.Stp.len] at this
 rw [qct]
 exact h.row.cell ad rfl (by omega) _ v (by rw [qiH (cells := Rg.Stp.cells) (c := 78) Rg.Stp.len l k j hk hj, hv])
end
section
variable {H : Type} {enc : TypeId × Value -> H} {w : World} {base : Nat} {spare : Nat -> Bool} {held : Bool}
theorem qpH {base : Nat} {spare : Nat -> Bool} {held : Bool} {fuel : Nat} {l : List Value} {y : DataW H × List MemPlace} (hl : l.length = 76) (h : DataW.trod enc Tryz.prog w base spare held fuel 40 l = some y) :
 ∃ q : Rg.St, l = q.cells /\ Gm.ty q.g /\ q.g.qaa.length <= maxLen /\ Lies w w.heap.size 6 q.A q.g.qaa.length (Gm.qab q.g.qaa) := by
 obtain ⟨y0, y1, n, _, _, h0, h1⟩ := trod_struct2 Tryz.underlying40 h
 have cg : Tryz.prog.cellsOf 33 = 59 := by kernel_rfl
 have cr : Tryz.prog.cellsOf 38 = 17 := by kernel_rfl
 simp only [cg] at h0
 simp only [cr] at h1
 obtain ⟨g, A, c, e0, hg, hm, hL⟩ := qne (by simp; omega) h0
 obtain ⟨r, e1, _, _⟩ := qoA (by simp; omega) h1
 refine ⟨⟨g, r, A, c⟩, ?_, hg, hm, hL⟩
 have q1 : l.drop 59 = (l.drop 59).take 17 := qiM l 59 17 (by omega)
 have q0 : l.drop 0 = (l.drop 0).take 59 ++ l.drop 59 := qdo l 0 59
 have e0' : ((l.drop 0).take 59).toArray = Gm.cells g (.slice A g.qaa.length c) := e0
 have e1' : ((l.drop 59).take 17).toArray = Ros.cells r := e1
 have ql : l.toArray = Im.cells g (.slice A g.qaa.length c) r := by
  unfold Im.cells
  rw [<- e0', <- e1', <- q1]
  have := congrArg List.toArray q0
  simp at this ⊢
 unfold Rg.St.cells Rg.St.arr
 rw [<- ql]
theorem qoz {base : Nat} {spare : Nat -> Bool} {held : Bool} {fuel : Nat} {l : List Value} {y : DataW H × List MemPlace} (hl : l.length = 78) (h : DataW.trod enc Tryz.prog w base spare held fuel 60 l = some y) :
 ∃ o : Rg.Stp, l = o.cells /\ o.ty /\ o.s.g.qaa.length <= maxLen /\ Lies w w.heap.size 6 o.s.A o.s.g.qaa.length (Gm.qab o.s.g.qaa) := by
 obtain ⟨y0, y1, y2, n, _, _, h0, h1, h2⟩ := trod_struct3 Tryz.underlying60 h
 have ci : Tryz.prog.cellsOf 3 = 1 := by kernel_rfl
 have cs : Tryz.prog.cellsOf 40 = 76 := by kernel_rfl
 obtain ⟨x0, e0, _, w0⟩ := DataW.trod_int Tryz.underlying3 h0
 obtain ⟨x1, e1, _, w1⟩ := DataW.trod_int Tryz.underlying3 h1
 simp only [cs] at h2
 obtain ⟨q, e2, hg, hm, hL⟩ := qpH (by simp; omega) h2
 refine ⟨⟨x0, x1, q⟩, ?_, ⟨Bd.i64 w0, Bd.i64 w1, hg⟩, hm, hL⟩
 have e0' : (l.drop 0).take 1 = [Value.int .i64 x0] := by rw [<- e0, ci]
 have e1' : (l.drop 1).take 1 = [Value.int .i64 x1] := by rw [<- e1, ci]
 have q2 : l.drop 2 = q.cells := by rw [<- e2]; exact qiM l 2 76 (by omega)
 have q1 : l.drop 1 = [Value.int .i64 x1] ++ q.cells := by rw [<- q2, <- e1']; exact qdo l 1 1
 have q0 : l.drop 0 = [Value.int .i64 x0] ++ ([Value.int .i64 x1] ++ q.cells) := by rw [<- q1, <- e0']; exact qdo l 0 1
 exact q0
theorem qmA {b0 : Nat} {v : Value} {d : DataW H} {p : List MemPlace} (hv : Value.okWide Tryz.prog w .any b0 23 v) (h : DataW.Trod enc Tryz.prog w base spare held 23 v d p) :
 ∃ (A : Option Addr) (c : Nat) (l : List Rg.Stp), v = .slice A l.length c /\ (∀ o ∈ l, o.ty) /\ l.length <= maxLen /\ qhi w w.heap.size A l.length l := by
 have hag : ∀ cs, v ≠ .agg cs := fun cs e => by subst e; simp [Value.okWide, Tryz.underlying23, Cell.okWide, Cell.ok] at hv
 obtain ⟨A, c, l, h1, h2, h3, h4⟩ := open_slice (enc := enc) (w := w) (base := base) (spare := spare) (held := held) Rg.Stp.cells 78 (fun o => o.ty /\ o.s.g.qaa.length <= maxLen /\ Lies w w.heap.size 6 o.s.A o.s.g.qaa.length (Gm.qab o.s.g.qaa)) ⟨0, 0, ⟨Gm.new 0, Ros.new, none, 0⟩⟩ Tryz.underlying23 (by kernel_rfl) (by decide) Rg.Stp.len (fun hl ht => qoz hl ht) hag h
 exact ⟨A, c, l, h1, fun o ho => (h2 o ho).1, h3, ⟨h4, fun o ho => (h2 o ho).2.2, fun o ho => (h2 o ho).2.1⟩⟩
end
end Go.Proofs.YtbdlpbnfcnhajaaGreat