/-
Several texts in one: Tu Fqs Mk Apr Rgr Rgs Rgb Rgc Rgd Rj Rge Rgu Rpa.
-/
import Derived.Test.YtbdlpbnfcnhajaaGreatRm14
set_option maxRecDepth 100000
set_option maxHeartbeats 8000000
set_option linter.unusedVariables false
set_option linter.unusedSimpArgs false
namespace Fd
open Go
structure Turn where
 peer : Int
 inp : Nat → Gm.In
def Turn.cells (q : Turn) : List Value := [Value.int .i64 q.peer] ++ Gm.insCells q.inp
theorem Turn.cells_len (q : Turn) : q.cells.length = 25 := rfl
def Turn.ty (q : Turn) : Prop := (-9223372036854775808 ≤ q.peer ∧ q.peer ≤ 9223372036854775807) ∧ ∀ i, i < 8 → Gm.tyIn (q.inp i)
end Fd
namespace Go.Proofs.YtbdlpbnfcnhajaaGreat
open Go.ChangeShapes Go.WideShapes Go.ChangeAt Go.RowKit Go.Joins Go.ChangeMaps Go.Deep
section
variable {H : Type} {enc : TypeId × Value → H} {w : World} {base : Nat} {spare : Nat → Bool} {held : Bool}
theorem trod_turn {base : Nat} {spare : Nat → Bool} {held : Bool} {fuel : Nat} {l : List Value} {y : DataW H × List MemPlace} (hl : l.length = 25) (h : DataW.trod enc Tryz.prog w base spare held fuel 75 l = some y) : ∃ q : Fd.Turn, l = q.cells ∧ q.ty := by
 obtain ⟨xs, n, _, _, _, hlen, hf⟩ := DataW.trod_struct Tryz.underlying75 h
 have ci : Tryz.prog.cellsOf 3 = 1 := by kernel_rfl
 have c24 : Tryz.prog.cellsOf 49 = 24 := by kernel_rfl
 match xs, hlen with
 | [y0, y1], _ =>
  obtain ⟨x0, e0, _, w0⟩ := DataW.trod_int Tryz.underlying3 (hf 0 _ rfl)
  have h1 := hf 1 _ rfl
  simp [ci, c24] at e0 h1
  obtain ⟨f, e1, hty⟩ := trod_ins (by simp; omega) h1
  refine ⟨⟨x0, f⟩, ?_, Bd.i64 w0, hty⟩
  have e0' : (l.drop 0).take 1 = [Value.int .i64 x0] := by rw [← e0]; simp
  have q1 : l.drop 1 = Gm.insCells f := by rw [← e1, ← List.drop_one]; exact cut_end9 l 1 24 (by omega)
  have q0 : l.drop 0 = [Value.int .i64 x0] ++ Gm.insCells f := by rw [← q1, ← e0']; exact cut_at9 l 0 1
  exact q0
theorem open_turns {b0 : Nat} {v : Value} {d : DataW H} {p : List MemPlace} (hv : Value.okWide Tryz.prog w .any b0 22 v) (h : DataW.Trod enc Tryz.prog w base spare held 22 v d p) :
 ∃ (A : Option Addr) (c : Nat) (l : List Fd.Turn), v = .slice A l.length c ∧ (∀ q ∈ l, q.ty) ∧ l.length ≤ maxLen ∧ Lies w w.heap.size 25 A l.length (l.flatMap Fd.Turn.cells) := by
 have hag : ∀ cs, v ≠ .agg cs := fun cs e => by subst e; simp [Value.okWide, Tryz.underlying22, Cell.okWide, Cell.ok] at hv
 exact open_slice (enc := enc) (w := w) (base := base) (spare := spare) (held := held) Fd.Turn.cells 25 Fd.Turn.ty ⟨0, fun _ => ⟨0, 0, 0⟩⟩ Tryz.underlying22 (by kernel_rfl) (by decide) (fun _ => rfl) (fun hl ht => trod_turn hl ht) hag h
end
open Go Go.RowKit Go.Shelf
theorem fq_state {B0 : Nat} {W : World} {o : Oper} {a : Act} {K : Act → Prop} {B : Nat} {g : Gm.G} {s : Value} {r : Ros.R} {x : Operand} (ho : o.op = .load 40 x) (hx : a.eval x = .pointer (some ⟨B, 0, none⟩)) (hB : ∀ q : Ext B0 W, Box q.w B 40 (Im.cells g s r)) (h : K (a.put o.dst (.agg (Im.cells g s r)))) :
 o.quiet Tryz.prog a (fun w' => ∃ q : Ext B0 W, w' = q.w) K :=
 ⟨_, fun w hw => by obtain ⟨q, e'⟩ := hw; subst e'; unfold Oper.quietAt; rw [exec_load_blk ho hx (hB q) Tryz.underlying40 rfl (by rw [Im.cells_size]; exact state_info)]; exact ⟨rfl, rfl⟩, h⟩
def Made (d : Int) (n : Nat) (w : World) (e : Ending) (w' : World) : Prop :=
 ∃ (A : Option Addr) (c : Nat) (l : List En.S) (u : Fd.S), e = .returned (.slice A l.length c) ∧ LiesS w' w'.heap.size A l.length l ∧ (∀ q ∈ l, ∀ i, i < 8 → Gm.tyIn (q.e.inp i)) ∧ Fd.run (Fd.start d) (Fd.es l) = some u ∧ l.length ≤ n ∧ Below w.heap.size w w' ∧ l.length ≤ c
theorem Mk.cap {w W : World} {bs : Nat} {d : Int} {u : Fd.S} {A AO : Option Addr} {c cO : Nat} {out : List En.S} (h : Mk w bs d u A c AO cO out W) : out.length ≤ cO := by
 obtain ⟨_, ⟨e, h0⟩ | ⟨g, cap, cur, e, _, _, hc, _⟩⟩ := h.own
 · omega
 · injection e with _ _ e
   omega
structure Mr (wr : World) (k : Nat) (r : Ros.R) (evs : List En.Ev) (ps : Nat → Gm.In) (AE : Option Addr) (cE : Nat) (W : World) : Prop where
 en : Box W wr.heap.size 51 (En.cells ⟨k, evs, ps⟩ (.slice AE evs.length cE))
 ro : Box W (wr.heap.size + 1) 38 (Ros.cells r)
 ev : LT W 79 4 AE evs.length (En.evCells evs)
 below : Below wr.heap.size wr W
section
variable {wr W W' : World} {k : Nat} {r r' : Ros.R} {evs : List En.Ev} {ps ps' : Nat → Gm.In} {AE : Option Addr} {cE : Nat}
theorem Mr.call (h : Mr wr k r evs ps AE cE W) (hb : Below W.heap.size W W') : Mr wr k r evs ps AE cE W' :=
 ⟨h.en.below hb h.en.lt, h.ro.below hb h.ro.lt, h.ev.call hb, h.below.trans (hb.mono h.below.size)⟩
theorem Mr.ros (h : Mr wr k r evs ps AE cE W) (r' : Ros.R) : Mr wr k r' evs ps AE cE (W.setRow (wr.heap.size + 1) (Ros.cells r')) :=
 ⟨h.en.row_far (by omega) _, h.ro.row _, h.ev.row h.ro (by decide) _, Below.setRow' h.below (by omega) _⟩
theorem Mr.inp (h : Mr wr k r evs ps AE cE W) (ps' : Nat → Gm.In) : Mr wr k r evs ps' AE cE (W.setRow wr.heap.size (En.cells ⟨k, evs, ps'⟩ (.slice AE evs.length cE))) :=
 ⟨h.en.row _, h.ro.row_far (by omega) _, h.ev.row h.en (by decide) _, Below.setRow' h.below (Nat.le_refl _) _⟩
end
theorem LT.set {w : World} {t t' : TypeId} {size n B : Nat} {A : Option Addr} {xs : List Value} {old : Array Value} (h : LT w t size A n xs) (hB : Box w B t' old) (hne : t ≠ t') (i : Nat) (v : Value) : LT (w.setCell ⟨B, i, none⟩ v) t size A n xs :=
 h.stays ((Below.refl 0 w).setCell (Nat.zero_le _) v).size fun ad e => heap_setCell_other w ⟨B, i, none⟩ _ v fun eb => by
  obtain ⟨cs1, fz, h1⟩ := h.typed.is ad e
  rw [eb, hB.is] at h1
  injection h1 with h1
  injection h1 with _ ht _
  exact hne ht.symm
theorem Mr.event {wr W : World} {k : Nat} {r : Ros.R} {ps : Nat → Gm.In} (h : Mr wr k r [] ps none 0 W) (v : En.Ev) :
 Mr wr k r [v] ps (some ⟨W.heap.size, 0, none⟩) 1 ((W.setCell ⟨wr.heap.size, 1, none⟩ (.slice (some ⟨W.heap.size, 0, none⟩) 1 1)).alloc (.cells #[.int .i64 v.kind, .int .i64 v.slot, .int .i64 v.gen, .int .i64 v.peer] 79)) :=
 have hs : (W.setCell ⟨wr.heap.size, 1, none⟩ (.slice (some ⟨W.heap.size, 0, none⟩) 1 1)).heap.size = W.heap.size := by simp
 ⟨(h.en.put 1 _).alloc _, (h.ro.far (by show _ ≠ wr.heap.size; omega) _).alloc _, LT.boxed (xs := En.evCells [v]) (Box.made_at (n := W.heap.size) _ _ _ hs.symm) rfl, (h.below.setCell (Nat.le_refl _) _).alloc (by rw [hs]; exact h.below.size) _⟩
theorem Fd.Turn.cells_in (q : Fd.Turn) (i c : Nat) (hi : i < 8) (hc : c < 3) : q.cells[1 + i * 3 + c]? = (q.inp i).cells[c]? := by
 match i, hi with
 | 0, _ | 1, _ | 2, _ | 3, _ | 4, _ | 5, _ | 6, _ | 7, _ =>
  match c, hc with
  | 0, _ | 1, _ | 2, _ => rfl
theorem addr_succ (a : Addr) (m : Nat) : a.add (m + 1) = ⟨a.block, a.off + (m + 1), none⟩ := by unfold Addr.add; rw [if_neg (by omega)]
theorem fq_ros {B0 : Nat} {W : World} {o : Oper} {a : Act} {K : Act → Prop} {B : Nat} {r : Ros.R} {x : Operand} (ho : o.op = .load 38 x) (hx : a.eval x = .pointer (some ⟨B, 0, none⟩)) (hB : ∀ q : Ext B0 W, Box q.w B 38 (Ros.cells r)) (h : K (a.put o.dst (.agg (Ros.cells r)))) :
 o.quiet Tryz.prog a (fun w' => ∃ q : Ext B0 W, w' = q.w) K :=
 ⟨_, fun w hw => by obtain ⟨q, e'⟩ := hw; subst e'; unfold Oper.quietAt; rw [exec_load_blk ho hx (hB q) Tryz.underlying38 rfl ros_info]; exact ⟨rfl, rfl⟩, h⟩
theorem exec_load_event {o : Oper} {a : Act} {w : World} {x : Operand} {ad : Addr} (v : En.Ev) (ho : o.op = .load 79 x) (hx : a.eval x = .pointer (some ad)) (hc : ∀ j u, v.cells[j]? = some u → w.cell? (ad.add j) = some u) :
 (execOp a.eval o).run Tryz.prog w = .ok (.value (.agg #[.int .i64 v.kind, .int .i64 v.slot, .int .i64 v.gen, .int .i64 v.peer])) w :=
 exec_load_any (cs := v.cells) ho hx hc Tryz.underlying79 rfl ev4_size
theorem refevent_is (s : Fd.S) (v : En.Ev) (hv : En.evOk v) : ∃ (r2 : Ros.R) (code : Int), ∀ w, Calls Tryz.prog 31 #[.agg (Ros.cells s.r), .agg #[.int .i64 v.kind, .int .i64 v.slot, .int .i64 v.gen, .int .i64 v.peer]] w fun e w' => e = .returned (.tuple #[.agg (Ros.cells r2), .int .i64 code]) ∧ Below w.heap.size w w' := by
 by_cases h : Fd.MayEv s v
 · exact ⟨_, 0, fun w => refevent_yes s v w h⟩
 · exact ⟨_, 1, fun w => refevent_no s v w hv h⟩
theorem refslot_is (r : Ros.R) (p : Int) (hok : Ros.Ok r) (hp : 0 ≤ p) : ∃ v : Int, (v = -1 ∨ ∃ k : Nat, k < 8 ∧ v = k ∧ r.peer k = p) ∧ ∀ w, Calls Tryz.prog 29 #[.agg (Ros.cells r), .int .i64 p] w fun e w' => e = .returned (.int .i64 v) ∧ Below w.heap.size w w' := by
 by_cases h : ∃ k : Nat, k < 8 ∧ r.peer k = p
 · obtain ⟨k, hk, he⟩ := h
   refine ⟨k, .inr ⟨k, hk, rfl, he⟩, fun w => (refslot_any r p w).mono ?_⟩
   rintro e w' ⟨⟨v, rfl, ⟨_, hno⟩ | ⟨k', hk', rfl, _, _, he'⟩⟩, hb⟩
   · exact absurd he (hno hok hp k hk)
   · obtain rfl : k' = k := hok.one hk' hk (he'.trans he.symm) (by rw [he']; omega)
     exact ⟨rfl, hb⟩
 · refine ⟨-1, .inl rfl, fun w => (refslot_any r p w).mono ?_⟩
   rintro e w' ⟨⟨v, rfl, ⟨rfl, _⟩ | ⟨k', hk', rfl, _, _, he'⟩⟩, hb⟩
   · exact ⟨rfl, hb⟩
   · exact absurd ⟨k', hk', he'⟩ h
theorem make_any (seed : ByteArray) (l : List Fd.Turn) (A : Option Addr) (n c : Nat) (d : Int) (w : World) (hsz : seed.size ≤ maxLen) (hd : d = Dn.seed seed.data.toList) (hn : n = l.length) (hn100 : n ≤ 100) (hl : Lies w w.heap.size 25 A n (l.flatMap Fd.Turn.cells)) (hty : ∀ q ∈ l, q.ty) :
 Calls Tryz.prog 7 #[.string seed, .slice A n c] w (Made d n w) := by
 have cs := fun X => qh (start_any seed X hsz)
 have hdb := Dn.seed_bd seed.data.toList
 rw [← hd] at cs hdb
 have HDB := qh hdb
 have HL := qh hl
 have HT := qh hty
 have HN := qh hn
 clear hsz hd hdb hl hty hn
 go_enter Tryz.func7, Tryz.ntmps7
 go_upto_region 2 with (first | (with_reducible refine alloc_state rfl rfl ?_) | (with_reducible refine im_store_new rfl rfl rfl rfl Im.zero_size rfl ?_) | (go_at_call 8; ((with_reducible refine ((cs _).out).mono ?_); rintro x w1 ⟨rfl, hb⟩; have S1 := qh (Box.made w1 40 (Im.cells (Gm.new d) (.slice none 0 0) Ros.new)); have K1 := qh (hb.alloc hb.size (.cells (Im.cells (Gm.new d) (.slice none 0 0) Ros.new) 40)); have sz1 := hb.size; clear hb)))
 generalize hW1 : w1.alloc (.cells (Im.cells (Gm.new d) (.slice none 0 0) Ros.new) 40) = W1 at S1 K1 ⊢
 generalize hbs : w1.heap.size = bs at S1 sz1 ⊢
 clear hW1 hbs
 have M1 := qh (show Mk w bs d (Fd.start d) none 0 none 0 [] W1 from ⟨S1.out, LT.nil, World.ownsRow_nil _ _ _ _, fun q h => (nomatch h), fun q h => (nomatch h), fun q h => (nomatch h), rfl, sz1, K1.out⟩)
 clear S1 K1 cs sz1
 go_wp2
 go_loopw [6, 7, 8, 9, 10, 11, 12, 13, 14, 15, 16] (fun o i _ _ _ _ _ _ _ _ _ wr => ∃ (k : Nat) (u : Fd.S) (A' : Option Addr) (c' : Nat) (AO : Option Addr) (cO : Nat) (out : List En.S), k ≤ n ∧ i = .int .i64 k ∧ o = .slice AO out.length cO ∧ out.length = k ∧ Mk w bs d u A' c' AO cO out wr) (fun _ i _ _ _ _ _ _ _ _ _ _ => n - (intOf i).toNat)
 case atStart => exact ⟨0, Fd.start d, none, 0, none, 0, [], Nat.zero_le _, rfl, rfl, rfl, M1.out⟩
 case round =>
  obtain ⟨k, u, A', c', AO, cO, out, hk, rfl, rfl, hout, hM⟩ := hrel
  rename World => w0
  have HO := qh hout
  clear hout
  clear M1
  by_cases hlt : k < n
  · have hk8 : (k : Int) < n := by omega
    have hkl : k < l.length := by have := HN.out; omega
    have hFi := ((Fd.start_fine HDB.out).run hM.run).1
    have hLw := (HL.out.below hM.below)
    obtain ⟨ad, rfl, hblk⟩ := hLw.start (by omega)
    have hrow : ∀ j v, j < 25 → l[k].cells[j]? = some v → w0.cell? ((ad.add (k * 25)).add j) = some v := fun j v hj hv => by
     rw [add_twice]
     exact hLw.cell ad rfl (by omega) _ v (by rw [flat_at Fd.Turn.cells_len l k j hkl hj, hv])
    have hq := HT.out l[k] (List.getElem_mem hkl)
    generalize l[k] = q at hrow hq
    have szM := hM.below.size
    have hbw : (ad.add (k * 25)).block < w0.heap.size := by rw [add_block]; exact Nat.lt_of_lt_of_le hblk szM
    have TC := qh (fun (X : World) (hX : Below w0.heap.size w0 X) (j : Nat) (v : Value) (hj : j < 25) (hv : q.cells[j]? = some v) => (hX.cell (p := (ad.add (k * 25)).add j) (by rw [add_block]; exact hbw)).trans (hrow j v hj hv))
    have HM := qh hM
    have HF := qh hFi
    have HQ := qh hq
    have E1 := qh (Box.made w0 51 (En.cells (Fd.eI k) (.slice none 0 0)))
    have M2 := qh (hM.call (one_below w0 (.cells (En.cells (Fd.eI k) (.slice none 0 0)) 51)))
    have E2 := qh (E1.out.alloc (.cells (Ros.cells u.r) 38))
    have R2 := qh (Box.made_at (n := w0.heap.size + 1) (w0.alloc (.cells (En.cells (Fd.eI k) (.slice none 0 0)) 51)) 38 (Ros.cells u.r) (by simp))
    have K2 := qh (two_below' w0 (.cells (En.cells (Fd.eI k) (.slice none 0 0)) 51) (.cells (Ros.cells u.r) 38))
    have hp0 : w0.cell? (ad.add (k * 25)) = some (.int .i64 q.peer) := hrow 0 _ (by decide) rfl
    have hqp := hq.1
    obtain ⟨pe, hpe⟩ : ∃ pe, pe = q.peer := ⟨_, rfl⟩
    rw [← hpe] at hp0 hqp
    obtain ⟨p, hp40, hpp⟩ : ∃ p : Nat, p < 40 ∧ wrap64 ((IntKind.u64.wrap pe).tmod 40) = (p : Int) := by
     rw [wrap_u64']
     obtain ⟨z, hz⟩ : ∃ z, z = pe % 18446744073709551616 := ⟨_, rfl⟩
     rw [← hz]
     have hz0 : 0 ≤ z := by omega
     clear hz
     refine ⟨(z % 40).toNat, by omega, ?_⟩
     rw [Int.tmod_eq_emod_of_nonneg hz0, IntWalk.wrap64_in _ (by omega)]
     omega
    clear hFi hLw hq hM hrow hpe
    go_upto_region 9 with (first | (with_reducible refine alloc_en rfl rfl ?_) | (with_reducible refine en_store_new rfl rfl rfl rfl En.zeroC_size rfl ?_) | (refine wpList_build_is rfl (t := 51) (vs := [(0, .int .i64 k)]) rfl rfl (en_built_I k) ?_) | (with_reducible refine ros_alloc rfl rfl ?_) | (with_reducible refine ros_store_new rfl rfl rfl rfl rfl ?_) | ((with_reducible refine im_load_ros rfl rfl ?_); apply LoadIm.mk rfl; (focus (with_reducible exact M2.out.st)); dsimp only))
    rw [hpp]
    have RD := qh (show Mr w0 k u.r [] Fd.in0 none 0 ((w0.alloc (.cells (En.cells (Fd.eI k) (.slice none 0 0)) 51)).alloc (.cells (Ros.cells u.r) 38)) from ⟨E2.out, R2.out, LT.nil, K2.out⟩)
    generalize ((w0.alloc (.cells (En.cells (Fd.eI k) (.slice none 0 0)) 51)).alloc (.cells (Ros.cells u.r) 38)) = W2 at RD ⊢
    clear hpp hp0 E1 E2 R2 K2 M2 hqp
    go_upto_if 38 with fail
    go_cut [11, 12] from 19 to 141 (fun _ _ wx => ∃ (evs : List En.Ev) (AE : Option Addr) (cE : Nat), Mr w0 k u.r evs Fd.in0 AE cE wx ∧ evs.length ≤ 1 ∧ ∀ v ∈ evs, En.evOk v)
    case first =>
     by_cases hp12 : p < 12
     · have hp12' : (p : Int) < 12 := by omega
       obtain ⟨v1, hv1, hs1⟩ := refslot_is u.r p HF.out.ok.2.1 (by omega)
       have cs1 := fun X => qh (hs1 X)
       have cf1 := fun X => qh (reffree_is u.r X HF.out.ok.2.1)
       have hv2 := Fd.freeV_is u.r
       have hseat := fun (j : Nat) (hj : j < 8) => Ros.Ok.seat HF.out.ok.2.1 j hj
       have HS := qh hseat
       generalize Fd.freeV u.r = v2 at cf1 hv2
       clear hs1 hseat
       go_upto_region 10 with fail
       have ZR := qh (fun q : Ext W2.heap.size W2 => RD.out.ro.below q.h RD.out.ro.lt)
       have RX := qh (fun q : Ext W2.heap.size W2 => RD.out.call q.h)
       refine wp_region_ext W2.heap.size W2 (by kernel_rfl) (by kernel_rfl) (Below.refl _ _) ?_
       repeat (first | (go_big_quiet_want; refine fq_ros rfl rfl ZR.out ?_; simp only [Act.put, List.setIfInBounds_toArray, List.set_cons_succ, List.set_cons_zero]; go_big_quiet_on) | go_big_quiet_step ((first | (go_at_call 29; with_reducible exact Calls.ext_of (Nat.le_refl _) (cs1 _).out) | (go_at_call 30; with_reducible exact Calls.ext_of (Nat.le_refl _) (cf1 _).out))))
       refine wpQuiet_nil ?_
       intro _ hw'
       obtain ⟨q3, hw''⟩ := hw'
       subst hw''
       have R3 := qh (RX.out q3)
       generalize q3.w = W3 at *
       clear cs1 cf1 ZR RX RD q3
       have n1 := (R3.out.en.cell 1).trans (En.cells_1 _ _)
       have f1 := R3.out.en.free 1
       have l1 := R3.out.en.lt
       rcases hv1 with rfl | ⟨k1, hk1, rfl, hpk⟩
       · rcases hv2 with rfl | ⟨k2, hk2, rfl, hg2⟩
         · go_wp2
           go_meet
           exact ⟨[], none, 0, R3.out, by simp, fun v h => (nomatch h)⟩
         · have hk28 : (k2 : Int) < 8 := by omega
           have g3 := (R3.out.ro.cell (1 + k2 * 2 + 1)).trans (Ros.cells_gen u.r k2 hk2)
           obtain ⟨gk, hgk⟩ : ∃ gk, gk = u.r.gen k2 := ⟨_, rfl⟩
           have hgb := (HS.out k2 hk2).1
           rw [← hgk] at g3 hg2 hgb
           have hw1 : IntKind.i64.wrap (gk + 1) = gk + 1 := by rw [IntKind.wrap_i64]; omega
           have J := qh (R3.out.event ⟨1, k2, gk + 1, p⟩)
           have OKV := qh (show En.evOk ⟨1, k2, gk + 1, p⟩ from ⟨.inr rfl, ⟨by show (0 : Int) ≤ k2; omega, hk28⟩, ⟨by show 1 ≤ gk + 1; omega, by show gk + 1 ≤ 60000; omega⟩, by show (0 : Int) ≤ p; omega, hp12'⟩)
           clear hgk
           go_wp2
           go_meet
           exact ⟨[⟨1, k2, gk + 1, p⟩], _, 1, J.out, by simp, fun v h => by obtain rfl := List.mem_singleton.1 h; exact OKV.out⟩
       · have hk18 : (k1 : Int) < 8 := by omega
         have g3 := (R3.out.ro.cell (1 + k1 * 2 + 1)).trans (Ros.cells_gen u.r k1 hk1)
         obtain ⟨gk, hgk⟩ : ∃ gk, gk = u.r.gen k1 := ⟨_, rfl⟩
         have hgb := (HS.out k1 hk1)
         unfold Ros.OkSeat at hgb
         rw [← hgk, hpk] at hgb
         rw [← hgk] at g3
         have J := qh (R3.out.event ⟨2, k1, gk, p⟩)
         have OKV := qh (show En.evOk ⟨2, k1, gk, p⟩ from ⟨.inl rfl, ⟨by show (0 : Int) ≤ k1; omega, hk18⟩, ⟨by show 1 ≤ gk; omega, by show gk ≤ 60000; omega⟩, by show (0 : Int) ≤ p; omega, hp12'⟩)
         clear hgk hgb hpk
         go_wp2
         go_meet
         exact ⟨[⟨2, k1, gk, p⟩], _, 1, J.out, by simp, fun v h => by obtain rfl := List.mem_singleton.1 h; exact OKV.out⟩
     · have hp12' : ¬ (p : Int) < 12 := by omega
       go_wp2
       go_meet
       exact ⟨[], none, 0, RD.out, by simp, fun v h => (nomatch h)⟩
    case rest =>
     obtain ⟨evs, AE, cE, hMr, hlen, hok⟩ := hcut
     have R4 := qh hMr
     have OKE := qh hok
     clear hMr hok RD
     have n1 := (R4.out.en.cell 1).trans (En.cells_1 _ _)
     go_wp2
     go_loopw [13] (fun i wr => ∃ (j : Nat) (r' : Ros.R), j ≤ evs.length ∧ i = .int .i64 j ∧ Mr w0 k r' evs Fd.in0 AE cE wr) (fun i _ => evs.length - (intOf i).toNat)
     case atStart => exact ⟨0, u.r, Nat.zero_le _, rfl, R4.out⟩
     case round =>
      obtain ⟨j, r', hj, rfl, hRj⟩ := hrel
      clear n1 R4
      have RJ := qh hRj
      clear hRj
      have n1 := (RJ.out.en.cell 1).trans (En.cells_1 _ _)
      by_cases hjl : j < evs.length
      · have hjl8 : (j : Int) < evs.length := by omega
        obtain ⟨ad2, rfl, hb2⟩ := RJ.out.ev.lies.start (by omega)
        have hev := fun i v (hi : i < 4) (hv : (evs[j]).cells[i]? = some v) => RJ.out.ev.lies.cell ad2 rfl (by omega) (j * 4 + i) v (by rw [En.evCells_at evs j i hjl hi]; exact hv)
        have hvo := OKE.out evs[j] (List.getElem_mem hjl)
        generalize evs[j] = ev at hev hvo
        obtain ⟨r2, code, hcs⟩ := refevent_is ⟨u.g, r'⟩ ev hvo
        have CE := qh hcs
        have RX := qh (fun X (hX : Below wr.heap.size wr X) => RJ.out.ro.below hX RJ.out.ro.lt)
        have NX := qh (fun X (hX : Below wr.heap.size wr X) => ((RJ.out.en.below hX RJ.out.en.lt).cell 1).trans (En.cells_1 _ _))
        have EX := qh (fun X (hX : Below wr.heap.size wr X) (i : Nat) (v : Value) (hv : ev.cells[i]? = some v) => (hX.cell (p := (ad2.add (j * 4)).add i) (by rw [add_block, add_block]; exact hb2)).trans (show wr.cell? ((ad2.add (j * 4)).add i) = some v by rw [add_twice]; exact hev i v (by have := (List.getElem?_eq_some_iff.1 hv).1; exact this) hv))
        clear hcs hvo hev
        go_upto_region 18 with fail
        refine Rp.wp_region_lex (by kernel_rfl) [] (by kernel_rfl) (fun X => Below wr.heap.size wr X) (fun X => Below wr.heap.size wr X) (fun _ => True) ((Below.refl _ _).drew) (fun W hW => ⟨hW, trivial⟩) ?_
        repeat (first
         | (apply Rp.lex_free rfl rfl; focus (intro _; go_simp; first | done | rfl))
         | (apply Rp.lex_look rfl rfl rfl rfl; focus (intro W hW; exact exec_load_ros rfl rfl (RX.out W hW)))
         | (apply Rp.lex_look rfl rfl rfl rfl; focus (intro W hW; exact exec_load_event ev rfl rfl (EX.out W hW)))
         | (apply Rp.lex_look rfl rfl rfl rfl; focus (intro W hW; have q0 := NX.out W hW; clear hW; go_simp; first | done | rfl)))
        refine Rp.lex_call (C' := fun X => Below wr.heap.size wr X) (v := .tuple #[.agg (Ros.cells r2), .int .i64 code]) (f := 31) (args := #[.agg (Ros.cells r'), .agg #[.int .i64 ev.kind, .int .i64 ev.slot, .int .i64 ev.gen, .int .i64 ev.peer]]) rfl ?_ ?_ ?_ ?_
        · intro Z hZ; clear hZ; go_simp; first | done | rfl | exact ⟨rfl, rfl⟩
        · intro Z hZ
          exact (CE.out Z).mono (fun e w' h => ⟨h.1, hZ.trans (h.2.mono hZ.size)⟩)
        · exact fun Z hZ => ⟨hZ, trivial⟩
        repeat (apply Rp.lex_free rfl rfl; focus (intro _; go_simp; first | done | rfl))
        refine Rp.lex_store (C' := fun Y => ∃ X, Below wr.heap.size wr X ∧ Y = X.setRow (w0.heap.size + 1) (Ros.cells r2)) (D' := fun _ => True) rfl rfl ?_ (fun _ _ => ⟨trivial, trivial⟩) ?_
        · intro Z hZ
          refine ⟨_, exec_store_blk (B := w0.heap.size + 1) (cs := Ros.cells r2) (old := Ros.cells r') rfl ?_ ?_ (RX.out Z hZ) ros_info (Eq.trans (b := 17) rfl rfl) (ros_one _), Z, hZ, rfl⟩ <;> (clear hZ; go_simp; first | done | rfl)
        refine Rp.lex_end fun W3 hW3 => ?_
        obtain ⟨X, hX, rfl⟩ := hW3
        have R6 := qh ((RJ.out.call hX).ros r2)
        clear CE RX NX EX RJ hX n1 hb2
        go_wp2
        go_roundw
        case rel => exact ⟨j + 1, r2, by omega, by go_num, R6.out⟩
        case measure => simp [intOf]; omega
      · have hjl8 : ¬ (j : Int) < evs.length := by omega
        go_upto_region 19 with fail
        clear hjl8 hjl hj n1
        go_wp2
        go_loopw [14] (fun i wr => ∃ (j : Nat) (ps : Nat → Gm.In), j ≤ 8 ∧ i = .int .i64 j ∧ (∀ i, i < 8 → Gm.tyIn (ps i)) ∧ Mr w0 k r' evs ps AE cE wr) (fun i _ => 8 - (intOf i).toNat)
        case atStart => exact ⟨0, Fd.in0, by omega, rfl, in0_tyin, RJ.out⟩
        case round =>
         obtain ⟨i, ps, hi, rfl, hps, hRi⟩ := hrel
         clear RJ
         have RI := qh hRi
         have HPS := qh hps
         clear hRi hps
         by_cases hi8 : i < 8
         · have hi8' : (i : Int) < 8 := by omega
           have c0 := (RI.out.ro.cell (1 + i * 2)).trans (Ros.cells_peer r' i hi8)
           obtain ⟨pk, hpk⟩ : ∃ pk, pk = r'.peer i := ⟨_, rfl⟩
           rw [← hpk] at c0
           have ha : ∀ t, (⟨(ad.add (k * 25)).block, (ad.add (k * 25)).off + 1 + i * 3 + t, none⟩ : Addr) = (ad.add (k * 25)).add (1 + i * 3 + t) := fun t => by rw [show 1 + i * 3 + t = (i * 3 + t) + 1 by omega, addr_succ, show (ad.add (k * 25)).off + 1 + i * 3 + t = (ad.add (k * 25)).off + (i * 3 + t + 1) by omega]
           have hx := fun t ht v hv => (congrArg wr.cell? (ha t)).trans (TC.out wr RI.out.below (1 + i * 3 + t) v (by omega) ((Fd.Turn.cells_in q i t hi8 ht).trans hv))
           have htp := HQ.out.2 i hi8
           generalize q.inp i = P at hx htp
           have x0 : wr.cell? ⟨(ad.add (k * 25)).block, (ad.add (k * 25)).off + 1 + i * 3, none⟩ = some (.int .i8 P.x) := hx 0 (by decide) _ rfl
           have x1 : wr.cell? ⟨(ad.add (k * 25)).block, (ad.add (k * 25)).off + 1 + i * 3 + 1, none⟩ = some (.int .i8 P.y) := hx 1 (by decide) _ rfl
           have x2 : wr.cell? ⟨(ad.add (k * 25)).block, (ad.add (k * 25)).off + 1 + i * 3 + 2, none⟩ = some (.int .u8 P.b) := hx 2 (by decide) _ rfl
           obtain ⟨X, Y, B⟩ := P
           dsimp only at x0 x1 x2
           have HTP := qh htp
           clear hx ha hpk htp
           by_cases hp0 : pk < 0
           · go_wp2
             go_roundw
             case rel => exact ⟨i + 1, ps, by omega, by go_num, HPS.out, RI.out⟩
             case measure => simp [intOf]; omega
           · by_cases hxx : X = -128
             · have hxb : (X != -128) = false := by simp [hxx]
               go_wp2
               go_roundw
               case rel => exact ⟨i + 1, ps, by omega, by go_num, HPS.out, RI.out⟩
               case measure => simp [intOf]; omega
             · have hxb : (X != -128) = true := by simpa using hxx
               by_cases hyy : Y = -128
               · have hyb : (Y != -128) = false := by simp [hyy]
                 go_wp2
                 go_roundw
                 case rel => exact ⟨i + 1, ps, by omega, by go_num, HPS.out, RI.out⟩
                 case measure => simp [intOf]; omega
               · have hyb : (Y != -128) = true := by simpa using hyy
                 have R6 := qh (RI.out.inp (En.upd ps i ⟨X, Y, B⟩))
                 go_wp2_with (first | ((with_reducible refine en_store_in rfl rfl ?_); apply StoreIn.mk (u := ⟨X, Y, B⟩) rfl rfl hi8 RI.out.en; dsimp only))
                 go_roundw
                 case rel => exact ⟨i + 1, En.upd ps i ⟨X, Y, B⟩, by omega, by go_num, fun t ht => by (unfold En.upd; split; exact HTP.out; exact HPS.out t ht), R6.out⟩
                 case measure => simp [intOf]; omega
         · obtain rfl : i = 8 := by omega
           have M7 := qh (HM.out.call RI.out.below)
           have szb := HM.out.st.lt
           have hlm : evs.length ≤ maxLen := by unfold maxLen; omega
           have HLM := qh hlm
           cases hap : Fd.apply u ⟨k, evs, ps⟩ with
           | none =>
            have ca := qh (refapply_none u ⟨k, evs, ps⟩ A' AE u.g.shots.length c' evs.length cE wr HF.out.ty (by have := HF.out.few; unfold maxLen; omega) rfl M7.out.sh.lies rfl hlm RI.out.ev.lies HPS.out hap)
            clear hap hlm
            go_wp2_with (first | (with_reducible refine alloc_state rfl rfl ?_) | ((with_reducible refine im_load_state rfl rfl ?_); apply LoadIm.mk rfl; (focus (with_reducible exact M7.out.st)); dsimp only) | ((with_reducible refine en_load rfl rfl ?_); apply LoadEn.mk rfl; (focus (with_reducible exact RI.out.en)); dsimp only) | (with_reducible refine im_store_new rfl rfl rfl rfl Im.zero_size rfl ?_) | (go_at_call 9; ((with_reducible refine ((ca).out).mono ?_); rintro x w8 ⟨A8, c8, rfl, hL, hb⟩; have M8 := qh ((M7.out.call hb).call (one_below w8 (.cells (Im.cells u.g (.slice A8 u.g.shots.length c8) u.r) 40))); clear hb hL)))
            go_ret
            exact ⟨AO, cO, out, u, rfl, M8.out.lies, M8.out.ty, M8.out.run, by have := HO.out; omega, M8.out.below, M8.out.cap⟩
           | some v =>
            have ca := qh (refapply_own u v ⟨k, evs, ps⟩ A' AE u.g.shots.length c' evs.length cE wr HF.out.ty (by have := HF.out.few; unfold maxLen; omega) rfl M7.out.sh.lies rfl hlm RI.out.ev.lies HPS.out hap)
            have HAP := qh hap
            clear hap hlm
            go_upto_region 27 with (first | (with_reducible refine alloc_state rfl rfl ?_) | ((with_reducible refine im_load_state rfl rfl ?_); apply LoadIm.mk rfl; (focus (with_reducible exact M7.out.st)); dsimp only) | ((with_reducible refine en_load rfl rfl ?_); apply LoadEn.mk rfl; (focus (with_reducible exact RI.out.en)); dsimp only) | (with_reducible refine im_store_new rfl rfl rfl rfl Im.zero_size rfl ?_) | (go_at_call 9; ((with_reducible refine ((ca).out).mono ?_); rintro x w8 ⟨A8, c8, rfl, hL, hT, hb⟩; have L9 := qh ((LT.mk hL hT).call (one_below w8 (.cells (Im.cells v.g (.slice A8 v.g.shots.length c8) v.r) 40))); have M9 := qh ((M7.out.call hb).call (one_below w8 (.cells (Im.cells v.g (.slice A8 v.g.shots.length c8) v.r) 40))); have R9 := qh ((RI.out.call hb).call (one_below w8 (.cells (Im.cells v.g (.slice A8 v.g.shots.length c8) v.r) 40))); have N9 := qh (Box.made w8 40 (Im.cells v.g (.slice A8 v.g.shots.length c8) v.r)); clear hb hL hT)))
            generalize hW9 : w8.alloc (.cells (Im.cells v.g (.slice A8 v.g.shots.length c8) v.r) 40) = W9 at L9 M9 R9 N9 ⊢
            generalize w8.heap.size = b9 at N9 ⊢
            clear hW9 ca
            have NX := qh (M9.out.next (q := ⟨⟨k, evs, ps⟩, AE, cE⟩) (c2 := c8) HAP.out L9.out R9.out.ev HLM.out HPS.out)
            have EN := qh (R9.out.en.row_far (show w0.heap.size ≠ bs by omega) (Im.cells v.g (.slice A8 v.g.shots.length c8) v.r))
            have BL := qh (Below.setRow' M9.out.below M9.out.far (Im.cells v.g (.slice A8 v.g.shots.length c8) v.r))
            obtain ⟨i0, hi0, hz0, hz1, hz2⟩ := en_parts
            have hI := qh hi0
            have hZ := qh hz0
            have hS := qh hz1
            have hY := qh hz2
            have ho100 : out.length ≤ 100 := by have := HO.out; omega
            clear hi0 hz0 hz1 hz2
            go_wp2_with (first | ((with_reducible refine im_load_state rfl rfl ?_); apply LoadIm.mk rfl; (focus (with_reducible exact N9.out)); dsimp only) | ((with_reducible refine im_store_state rfl rfl ?_); apply StoreS.mk rfl rfl; (focus (with_reducible exact M9.out.st)); (focus (exact Im.cells_size _ _ _)); (focus rfl)) | ((with_reducible refine en_load rfl rfl ?_); apply LoadEn.mk rfl; (focus (with_reducible exact EN.out)); dsimp only) | ((with_reducible refine en_build1 rfl rfl ?_); refine BuildEn1.mk (q := ⟨⟨k, evs, ps⟩, AE, cE⟩) rfl ?_) | ((with_reducible refine append_gate (t := 25) (e := 51) (size := 26) (bytes := 56) rfl rfl Tryz.underlying25 hI.out hZ.out hS.out hY.out rfl (by decide) ?_); refine Appends.mk (base := w.heap.size) (n := out.length) (xs := En.sCells out) (m := 1) (news := En.sCells [⟨⟨k, evs, ps⟩, AE, cE⟩]) rfl NX.out.1 (Lies.boxed4 (Box.made _ 51 _) rfl) (En.sCells_one _) (by unfold maxLen; omega) (by omega) (Nat.le_trans BL.out.size (one_below _ _).size) ?_; intro A10 c10 w10 own10 hg10; have M11 := qh (NX.out.2 A10 c10 w10 own10 hg10); clear own10 hg10))
            go_roundw
            case rel => exact ⟨k + 1, v, A8, c8, A10, c10, out ++ [⟨⟨k, evs, ps⟩, AE, cE⟩], by omega, by go_num, by rw [List.length_append]; rfl, by rw [List.length_append, HO.out]; rfl, M11.out⟩
            case measure => simp [intOf]; omega
  · have hk8 : ¬ (k : Int) < n := by omega
    have M7 := qh hM
    clear hM
    go_wp2
    go_ret
    exact ⟨AO, cO, out, u, rfl, M7.out.lies, M7.out.ty, M7.out.run, by have := HO.out; omega, M7.out.below, M7.out.cap⟩
theorem append_row {P : Program} (w : World) {t ty e : TypeId} {i : TypeInfo} {z : Value} {size bytes : Nat} (ht : P.underlying t = some (.slice e)) (hi : P.info? e = some i) (hz : i.zero = some z) (hs : i.size = size) (hby : i.bytes = bytes) (hzs : z.cells.size = size) (hsz : 0 < size)
 {base n : Nat} {v : Value} {xs : List Value} (ho : w.ownsRow base e size v n xs) {A : Option Addr} {m c : Nat} {news : List Value} (hl : Lies w w.heap.size size A m news) (h1 : ∀ u ∈ news, u.oneCell' = true) (h63 : n + m ≤ maxLen) (hb : (n + m) * bytes ≤ 140737488355328) (hbase : base ≤ w.heap.size) :
 ∃ A' c' w', (Builtin.append_ #[t, t] ty #[v, .slice A m c]).run P w = .ok (.slice A' (n + m) c') w' ∧ w'.ownsRow base e size (.slice A' (n + m) c') (n + m) (xs ++ news) ∧ w.grownBy w' v.ownBlock := by
 have hrun : ∃ v' w', (Builtin.append_ #[t, t] ty #[v, .slice A m c]).run P w = .ok v' w' ∧ w'.ownsRow base e size v' (n + m) (xs ++ news) ∧ w.grownBy w' v.ownBlock := by
  cases A with
  | none =>
   have hm : m = 0 := by
    by_cases hm : m = 0
    · exact hm
    · obtain ⟨ad, he, _⟩ := hl.start hm
      cases he
   subst hm
   have hn : news = [] := List.eq_nil_of_length_eq_zero (by simpa using hl.len)
   subst hn
   exact ⟨_, w, append_nothing w ht hi ho c, by simpa using ho, World.grownBy.refl w _⟩
  | some ad =>
   have hcells : ∀ j u, news[j]? = some u → w.cell? (ad.add j) = some u := fun j u hu => by
    by_cases hm : m = 0
    · subst hm
      have hn : news = [] := List.eq_nil_of_length_eq_zero (by simpa using hl.len)
      subst hn
      simp at hu
    · exact hl.cell ad rfl hm j u hu
   obtain ⟨v', w', hr, h2, h3, _, _⟩ := run_append_own_at (P := P) w base t ty e i z size bytes ht hi hz hs hby hzs hsz v n xs ho ad m c news hl.len hcells h1 h63 hb hbase
   exact ⟨v', w', hr, h2, h3⟩
 obtain ⟨v', w', hr, h2, h3⟩ := hrun
 obtain ⟨A', c', rfl⟩ := owned_slice h2
 exact ⟨A', c', w', hr, h2, h3⟩
theorem own_grown {w w0 w' : World} {base n size : Nat} {e : TypeId} {v : Value} {xs : List Value} (k : Below base w0 w) (ho : w.ownsRow base e size v n xs) (hg : w.grownBy w' v.ownBlock) (hb : base = w0.heap.size) : Below base w0 w' := by
 refine k.grown hg (by rw [hb]; exact k.size) fun j hj => ?_
 obtain ⟨_, ⟨e, _⟩ | ⟨g, cap, cur, e, hbg, _⟩⟩ := ho
 · rw [e] at hj; cases hj
 · rw [e] at hj
   injection hj with hj
   have : g = j := hj
   omega
open Go.RowKit Go.Shelf
theorem shot_empty (w : World) : (w.alloc (.cells #[] 72)).ownsRow w.heap.size 72 6 (.slice (some ⟨w.heap.size, 0, none⟩) 0 0) 0 [] := by
 have := World.ownsRow_lit (base := w.heap.size) (e := 72) (size := 6) w #[] 0 (Nat.le_refl _) (by unfold maxLen; omega) rfl
 simpa using this
theorem shot_slice0 (W : World) : (Instr.buildSlice 31 0 #[]).run Tryz.prog W = .ok (.slice (some ⟨W.heap.size, 0, none⟩) 0 0) (W.alloc (.cells #[] 72)) := by
 obtain ⟨i0, hi0, hz0, hz1, hz2⟩ := info_parts shot_info
 simp [Instr.buildSlice, run_underlying (Tryz.underlying31) W, sizeOf, typeInfo, zeroValue, hi0, hz1, hz0, Instr.fill, newRow]
 rw [show Array.range 0 = #[] from by simp]
 simp
theorem shots_copied (W : World) {A : Option Addr} {n c : Nat} {l : List Gm.Shot} (h : Lies W W.heap.size 6 A n (Gm.shotCells l)) (hn : n ≤ 1000) :
 ∃ A' c' W', (Builtin.append_ #[31, 31] 31 #[.slice (some ⟨W.heap.size, 0, none⟩) 0 0, .slice A n c]).run Tryz.prog (W.alloc (.cells #[] 72)) = .ok (.slice A' n c') W' ∧ W'.ownsRow W.heap.size 72 6 (.slice A' n c') n (Gm.shotCells l) ∧ Below W.heap.size W W' := by
 obtain ⟨i0, hi0, hz0, hz1, hz2⟩ := info_parts shot_info
 have hk := one_below W (.cells #[] 72)
 obtain ⟨A', c', W', r, o, g⟩ := append_row (P := Tryz.prog) (W.alloc (.cells #[] 72)) (ty := 31) Tryz.underlying31 hi0 hz0 hz1 hz2 rfl (by decide) (shot_empty W) (c := c) ((h.below hk).wider hk.size) (shotCells_one l) (by unfold maxLen; omega) (by omega) hk.size
 rw [Nat.zero_add, List.nil_append] at o
 rw [Nat.zero_add] at r
 exact ⟨A', c', W', r, o, own_grown hk (shot_empty W) g rfl⟩
theorem append_run {P : Program} {ops : Array Oper} {rest : List Oper} {o : Oper} {a : Act} {w w' : World} {Q : Exit → Act → World → Prop} {x y : Operand} {ts : Array TypeId} {v1 v2 v : Value} (hgd : o.guard = none) (ho : o.op = .call { callee := .builtin .append, args := #[x, y], argTypes := ts }) (hx : a.eval x = v1) (hy : a.eval y = v2) (hr : (Builtin.append_ ts o.type #[v1, v2]).run P w = .ok v w') (h : wpList P ops Q rest (a.put o.dst v) w') : wpList P ops Q (o :: rest) a w := by
 refine wpList_plain hgd fun _ hK => ?_
 unfold Oper.wp
 rw [exec_append' ho hx hy hr]
 exact hK _ _ h
def Rows6 (R : List (Nat × TypeId × Array Value)) (A : Option Addr) (n : Nat) (lo hi : Nat) : Prop :=
 (n = 0 ∧ R = []) ∨ ∃ g cur, A = some ⟨g, 0, none⟩ ∧ R = [(g, 72, cur)] ∧ lo ≤ g ∧ g < hi ∧ n * 6 ≤ cur.size
theorem rows6_own {W : World} {base n c : Nat} {A : Option Addr} {xs : List Value} (h : W.ownsRow base 72 6 (.slice A n c) n xs) : ∃ R, Rows6 R A n base W.heap.size ∧ (∀ p ∈ R, Box W p.1 p.2.1 p.2.2) ∧ (∀ p ∈ R, p.2.2.toList.take (n * 6) = xs) := by
 obtain ⟨hl, ⟨e, h0⟩ | ⟨g, cap, cur, e, hb, hg, hc, hm, hs, ht⟩⟩ := h
 · exact ⟨[], .inl ⟨h0, rfl⟩, fun p hp => (nomatch hp), fun p hp => (nomatch hp)⟩
 · injection e with e _ _
   refine ⟨[(g, 72, cur)], .inr ⟨g, cur, e, rfl, hb, (Array.getElem?_eq_some_iff.1 hg).1, by rw [hs]; exact Nat.mul_le_mul_right 6 hc⟩, fun p hp => ?_, fun p hp => ?_⟩
   · obtain rfl := List.mem_singleton.1 hp; exact ⟨hg⟩
   · obtain rfl := List.mem_singleton.1 hp; exact ht
theorem rows6_lies {W : World} {A : Option Addr} {n lo hi : Nat} {R : List (Nat × TypeId × Array Value)} {l : List Gm.Shot} (h : Rows6 R A n lo hi) (hn : n = l.length) (hb : ∀ p ∈ R, Box W p.1 p.2.1 p.2.2) (hx : ∀ p ∈ R, p.2.2.toList.take (n * 6) = Gm.shotCells l) : Lies W W.heap.size 6 A n (Gm.shotCells l) := by
 rcases h with ⟨rfl, rfl⟩ | ⟨g, cur, rfl, rfl, _, _, hs⟩
 · have : l = [] := List.eq_nil_of_length_eq_zero hn.symm
   subst this
   exact Lies.none_
 · have h1 : Box W g 72 cur := hb _ (List.mem_singleton_self _)
   have h2 : cur.toList.take (n * 6) = Gm.shotCells l := hx _ (List.mem_singleton_self _)
   have hl : (Gm.shotCells l).length = n * 6 := by
    have := congrArg List.length h2
    rw [List.length_take, Array.length_toList] at this
    omega
   refine ⟨hl, fun _ => ⟨_, rfl, h1.lt⟩, fun ad e _ j u hj => ?_⟩
   injection e with e
   subst e
   rw [Addr.add_lit, Nat.zero_add, h1.cell j]
   rw [← h2] at hj
   have hjl : j < n * 6 := by have := (List.getElem?_eq_some_iff.1 hj).1; rw [List.length_take] at this; omega
   rw [List.getElem?_take, if_pos hjl, Array.getElem?_toList] at hj
   exact hj
theorem HoldB.join {μ : Type} {LP : Nat → (Nat → Prop) → Nat → μ → World → Prop} (C : ObjC LP) {w X X' : World} {B : Nat} {m : μ} {L R : List (Nat × TypeId × Array Value)} (h : HoldB LP w B m L X) (hb : Below X.heap.size X X') (hR : ∀ p ∈ R, Box X' p.1 p.2.1 p.2.2 ∧ X.heap.size ≤ p.1) : HoldB LP w B m (R ++ L) X' := by
 refine ⟨(HoldO.more C h.hold hb).less fun j hj => ?_, fun p hp => ?_⟩
 · obtain ⟨p, hp, rfl⟩ := hj
   rcases List.mem_append.1 hp with hp | hp
   · exact .inr ⟨(hR p hp).2, (hR p hp).1.lt⟩
   · exact .inl ⟨p, hp, rfl⟩
 · rcases List.mem_append.1 hp with hp | hp
   · exact (hR p hp).1
   · exact (h.boxes p hp).below hb (h.boxes p hp).lt
theorem told_rows {s : Fd.S} {X X' : World} {e : Ending} (h : ToldSt s X e X') : ∃ A c R, e = .returned (.tuple #[.agg (Im.cells s.g (.slice A s.g.shots.length c) s.r), .bool true]) ∧ Rows6 R A s.g.shots.length X.heap.size X'.heap.size ∧ (∀ p ∈ R, Box X' p.1 p.2.1 p.2.2 ∧ X.heap.size ≤ p.1) ∧ (∀ p ∈ R, p.2.2.toList.take (s.g.shots.length * 6) = Gm.shotCells s.g.shots) ∧ Below X.heap.size X X' := by
 obtain ⟨A, c, rfl, _, ho, hb⟩ := h
 by_cases h0 : s.g.shots.length = 0
 · exact ⟨A, c, [], rfl, .inl ⟨h0, rfl⟩, fun p hp => (nomatch hp), fun p hp => (nomatch hp), hb⟩
 · obtain ⟨R, h1, h2, h3⟩ := rows6_own (ho h0)
   refine ⟨A, c, R, rfl, h1, fun p hp => ⟨h2 p hp, ?_⟩, h3, hb⟩
   rcases h1 with ⟨_, rfl⟩ | ⟨g, cur, _, rfl, hg, _⟩
   · cases hp
   · obtain rfl := List.mem_singleton.1 hp; exact hg
theorem Rg.run_at {s : Fd.S} (h : Fd.Fine s) : Rg.at_ [s] s.g.frame = some s := by
 have hh : Rg.hasB [s] s.g.frame = true := Rg.has_is.2 ⟨Int.le_refl _, by show s.g.frame ≤ s.g.frame + 1 - 1; omega⟩
 unfold Rg.at_
 rw [if_pos hh]
 show [s][(s.g.frame - s.g.frame).toNat]? = _
 rw [Int.sub_self]; rfl
theorem own15_main {LP : RingP} (C : RingC LP) (seed : ByteArray) (l : List Fd.Turn) (A : Option Addr) (n c : Nat) (w : World) (hsz : seed.size ≤ 20) (hn : n = l.length) (hn8 : n ≤ 8) (hl : Lies w w.heap.size 25 A n (l.flatMap Fd.Turn.cells)) (hty : ∀ q ∈ l, q.ty) :
 Calls Tryz.prog 5 #[.string seed, .slice A n c] w fun e w' => e = .returned (.bool true) ∧ Below w.heap.size w w' := by
 have h63 : seed.size ≤ maxLen := by unfold maxLen; omega
 have hs20 : (seed.size : Int) ≤ 20 := by omega
 have hn1 : (n : Int) ≤ 8 := by omega
 have cm := fun X (hX : Below w.heap.size w X) => qh (make_any seed l A n c _ X h63 rfl hn (by omega) ((hl.below hX).wider hX.size) hty)
 have hd := Dn.seed_bd seed.data.toList
 have cs := fun X => qh (foldstart_any seed X h63)
 generalize Dn.seed seed.data.toList = d at cm hd cs
 have HD := qh hd
 clear hd hl hty hn
 go_enter Tryz.func5, Tryz.ntmps5
 go_upto_region 3 with fail
 have b0 := Below.refl w.heap.size w
 have FN := qh (Fd.start_fine HD.out)
 have LN := fun X => (show Lies X X.heap.size 6 none 0 (Gm.shotCells (Fd.start d).g.shots) from ⟨rfl, fun h => absurd rfl h, fun _ _ h => absurd rfl h⟩)
 have ca := fun X (log : List En.S) (A1 : Option Addr) (c1 : Nat) (u : Fd.S) (h1 : LiesS X X.heap.size A1 log.length log) (h2 : ∀ q ∈ log, ∀ i, i < 8 → Gm.tyIn (q.e.inp i)) (h3 : Fd.run (Fd.start d) (Fd.es log) = some u) (h4 : log.length ≤ maxLen) => qh (show Calls Tryz.prog 28 #[.agg (Im.cells (Gm.new d) (.slice none 0 0) Ros.new), .slice A1 log.length c1] X (SOut u.g u.r 0 X) from foldrun_some u (Fd.start d) log none A1 0 0 _ c1 X FN.out rfl (LN X) h4 h1 h2 h3)
 go_upto_region 4 with (first | (go_at_call 25; ((with_reducible refine ((cs _).out).mono ?_); rintro x w1 ⟨rfl, hb1⟩)) | (go_at_call 7; ((with_reducible refine ((cm _ hb1).out).mono ?_); rintro x w2 ⟨A1, c1, log, u, rfl, hL, hT, hrun, hlen, hb2, _⟩; have RU := qh hrun)) | (go_at_call 28; ((with_reducible refine ((ca _ log _ _ u hL hT hrun (by unfold maxLen; omega)).out).mono ?_); rintro x w3 ⟨A3, c3, rfl, hL3, hb3⟩; have S3 := qh (Box.made w3 40 (Im.cells u.g (.slice A3 u.g.shots.length c3) u.r)); have L3 := qh (hL3.call (one_below w3 (.cells (Im.cells u.g (.slice A3 u.g.shots.length c3) u.r) 40))); have K3 := qh (show Below w.heap.size w w3 from hb1.trans ((hb2.trans (hb3.mono hb2.size)).mono hb1.size)); clear hb1 hb2 hb3 hL hT hrun hL3 hlen)) | (with_reducible refine alloc_state rfl rfl ?_) | (with_reducible refine im_store_new rfl rfl rfl rfl Im.zero_size rfl ?_))
 have K4 := qh (K3.out.alloc K3.out.size (.cells (Im.cells u.g (.slice A3 u.g.shots.length c3) u.r) 40))
 generalize hW3 : w3.alloc (.cells (Im.cells u.g (.slice A3 u.g.shots.length c3) u.r) 40) = W3 at S3 L3 K4 ⊢
 have GS := qh K3.out.size
 generalize w3.heap.size = bs at S3 GS ⊢
 clear hW3 K3 cm cs ca
 have UF := qh ((FN.out.run RU.out).1)
 clear RU
 go_upto_region 6 with fail
 have n60 := UF.out.few
 -- shots of its own
 obtain ⟨A6, c6, W6, r6, o6, b6⟩ := shots_copied (c := c3) W3 L3.out (by omega)
 have hb0 := shot_slice0 W3
 have k58 : (W3.alloc (.cells #[] 72)).cell? ⟨bs, 58, none⟩ = some (.slice A3 u.g.shots.length c3) := ((S3.out.alloc _).cell 58).trans ((Im.cells_g _ _ _ 58 (by omega)).trans (Gm.cells_58 _ _))
 have S6 := qh (S3.out.below b6 S3.out.lt)
 have q58 : W6.cell? ⟨bs, 58, none⟩ = some (.slice A3 u.g.shots.length c3) := (S6.out.cell 58).trans ((Im.cells_g _ _ _ 58 (by omega)).trans (Gm.cells_58 _ _))
 have f58 := S6.out.free 58
 have l58 := S6.out.lt
 have T6 := qh (show Box (W6.setCell ⟨bs, 58, none⟩ (.slice A6 u.g.shots.length c6)) bs 40 (Im.cells u.g (.slice A6 u.g.shots.length c6) u.r) from Im.cells_shots u.g _ _ u.r ▸ S6.out.put 58 (.slice A6 u.g.shots.length c6))
 have O6 := qh (show (W6.setCell ⟨bs, 58, none⟩ (.slice A6 u.g.shots.length c6)).ownsRow W3.heap.size 72 6 (.slice A6 u.g.shots.length c6) u.g.shots.length (Gm.shotCells u.g.shots) from ownsRow_setCell_other (a := ⟨bs, 58, none⟩) o6 (S6.out.unowned o6 (by decide)) _)
 have K6 := qh (show Below w.heap.size w (W6.setCell ⟨bs, 58, none⟩ (.slice A6 u.g.shots.length c6)) from (K4.out.trans (b6.mono K4.out.size)).setCell (p := ⟨bs, 58, none⟩) GS.out _)
 have Z6 := qh (show w.heap.size ≤ W3.heap.size from K4.out.size)
 have Y6 := qh (show W3.heap.size ≤ (W6.setCell ⟨bs, 58, none⟩ (.slice A6 u.g.shots.length c6)).heap.size by simpa using b6.size)
 clear S6 o6 b6
 go_upto_region 7 with ((refine append_run (x := .tmp 35) (y := .tmp 38) rfl rfl rfl rfl r6 ?_))
 clear r6 hb0 k58 q58 f58 l58 S3 L3 K4
 generalize W6.setCell ⟨bs, 58, none⟩ (.slice A6 u.g.shots.length c6) = W7 at *
 go_upto_region 8 with (first | ((with_reducible refine im_load_state rfl rfl ?_); apply LoadIm.mk rfl; (focus (with_reducible exact T6.out)); dsimp only) | (with_reducible refine alloc_state rfl rfl ?_) | (with_reducible refine im_store_new rfl rfl rfl rfl Im.zero_size rfl ?_))
 have kk := one_below W7 (.cells (Im.cells u.g (.slice A6 u.g.shots.length c6) u.r) 40)
 have T7 := qh (T6.out.alloc (.cells (Im.cells u.g (.slice A6 u.g.shots.length c6) u.r) 40))
 have U7 := qh (Box.made W7 40 (Im.cells u.g (.slice A6 u.g.shots.length c6) u.r))
 have O7 := qh (own_below O6.out kk (Nat.le_refl _))
 have K7 := qh (K6.out.trans (kk.mono K6.out.size))
 have Z7 := qh (show w.heap.size ≤ W7.heap.size from K6.out.size)
 have NB := qh (show bs < W7.heap.size from T6.out.lt)
 generalize hW8 : W7.alloc (.cells (Im.cells u.g (.slice A6 u.g.shots.length c6) u.r) 40) = W8 at *
 obtain ⟨bt, hbt⟩ : ∃ bt, bt = W7.heap.size := ⟨_, rfl⟩
 rw [← hbt] at U7 Z7 NB Y6 ⊢
 have Y7 := qh (show W3.heap.size ≤ W8.heap.size from Nat.le_trans Y6.out (Nat.le_of_lt U7.out.lt))
 clear kk hW8 hbt T6 O6 K6 Y6
 -- and once more
 obtain ⟨A8, c8, W9, r8, o8, b8⟩ := shots_copied (c := c6) W8 (Lies.owned O7.out) (by omega)
 have hb0 := shot_slice0 W8
 have k58 : (W8.alloc (.cells #[] 72)).cell? ⟨bs, 58, none⟩ = some (.slice A6 u.g.shots.length c6) := ((T7.out.alloc _).cell 58).trans ((Im.cells_g _ _ _ 58 (by omega)).trans (Gm.cells_58 _ _))
 have V9 := qh (U7.out.below b8 U7.out.lt)
 have q58 : W9.cell? ⟨bt, 58, none⟩ = some (.slice A6 u.g.shots.length c6) := (V9.out.cell 58).trans ((Im.cells_g _ _ _ 58 (by omega)).trans (Gm.cells_58 _ _))
 have f58 := V9.out.free 58
 have l58 := V9.out.lt
 have U9 := qh (show Box (W9.setCell ⟨bt, 58, none⟩ (.slice A8 u.g.shots.length c8)) bt 40 (Im.cells u.g (.slice A8 u.g.shots.length c8) u.r) from Im.cells_shots u.g _ _ u.r ▸ V9.out.put 58 (.slice A8 u.g.shots.length c8))
 have T9 := qh ((T7.out.below b8 T7.out.lt).far (p := ⟨bt, 58, none⟩) (by have := NB.out; show bs ≠ bt; omega) (.slice A8 u.g.shots.length c8))
 have O9 := qh (show (W9.setCell ⟨bt, 58, none⟩ (.slice A8 u.g.shots.length c8)).ownsRow W8.heap.size 72 6 (.slice A8 u.g.shots.length c8) u.g.shots.length (Gm.shotCells u.g.shots) from ownsRow_setCell_other (a := ⟨bt, 58, none⟩) o8 (V9.out.unowned o8 (by decide)) _)
 have N9 := own_below O7.out b8 (Nat.le_refl _)
 have P9 := qh (show (W9.setCell ⟨bt, 58, none⟩ (.slice A8 u.g.shots.length c8)).ownsRow W3.heap.size 72 6 (.slice A6 u.g.shots.length c6) u.g.shots.length (Gm.shotCells u.g.shots) from ownsRow_setCell_other (a := ⟨bt, 58, none⟩) N9 (V9.out.unowned N9 (by decide)) _)
 have K9 := qh (show Below w.heap.size w (W9.setCell ⟨bt, 58, none⟩ (.slice A8 u.g.shots.length c8)) from (K7.out.trans (b8.mono K7.out.size)).setCell (p := ⟨bt, 58, none⟩) Z7.out _)
 have Z9 := qh (show w.heap.size ≤ W8.heap.size from K7.out.size)
 clear V9 o8 b8 N9
 obtain ⟨R6, hR6, hB6, _⟩ := rows6_own P9.out
 obtain ⟨R8, hR8, hB8, hX8⟩ := rows6_own O9.out
 have E6 : Rows6 R6 A6 u.g.shots.length W3.heap.size W8.heap.size := by
  rcases hR6 with h | ⟨g, cur, h1, h2, h3, h4, h5⟩
  · exact .inl h
  · refine .inr ⟨g, cur, h1, h2, h3, ?_, h5⟩
    obtain ⟨_, ⟨e, _⟩ | ⟨g', cap, cur', e, _, hg, _⟩⟩ := O7.out
    · injection e with e; rw [h1] at e; cases e
    · injection e with e; rw [h1] at e; injection e with e; injection e with e; rw [e]; exact (Array.getElem?_eq_some_iff.1 hg).1
 go_upto_region 9 with ((refine append_run (x := .tmp 43) (y := .tmp 46) rfl rfl rfl rfl r8 ?_))
 clear r8 hb0 k58 q58 f58 l58 T7 U7 O7 K7
 generalize W9.setCell ⟨bt, 58, none⟩ (.slice A8 u.g.shots.length c8) = X9 at *
 have Q8 := qh hR8
 have X8 := qh hX8
 have E8 := qh E6
 have BA := qh (show ∀ p ∈ R6 ++ ((bs, 40, Im.cells u.g (.slice A6 u.g.shots.length c6) u.r) :: (bt, 40, Im.cells u.g (.slice A8 u.g.shots.length c8) u.r) :: R8), Box X9 p.1 p.2.1 p.2.2 from fun p hp => by
  rcases List.mem_append.1 hp with hp | hp
  · exact hB6 p hp
  · rcases List.mem_cons.1 hp with rfl | hp
    · exact T9.out
    · rcases List.mem_cons.1 hp with rfl | hp
      · exact U9.out
      · exact hB8 p hp)
 have BG := qh (show ∀ p ∈ R6 ++ ((bs, 40, Im.cells u.g (.slice A6 u.g.shots.length c6) u.r) :: (bt, 40, Im.cells u.g (.slice A8 u.g.shots.length c8) u.r) :: R8), w.heap.size ≤ p.1 from fun p hp => by
  have h6 := Z6.out
  have h9 := Z9.out
  rcases List.mem_append.1 hp with hp | hp
  · rcases hR6 with ⟨_, rfl⟩ | ⟨g, cur, _, rfl, hg, _⟩
    · cases hp
    · obtain rfl := List.mem_singleton.1 hp; exact Nat.le_trans h6 hg
  · rcases List.mem_cons.1 hp with rfl | hp
    · exact GS.out
    · rcases List.mem_cons.1 hp with rfl | hp
      · exact Z7.out
      · rcases hR8 with ⟨_, rfl⟩ | ⟨g, cur, _, rfl, hg, _⟩
        · cases hp
        · obtain rfl := List.mem_singleton.1 hp; exact Nat.le_trans h9 hg)
 have cn := qh (B15.new C ⟨u.g, u.r, A6, c6⟩ UF.out.ty UF.out.ok ((Lies.owned P9.out)) K9.out BA.out BG.out)
 have S8 := qh (show ∀ p ∈ R8, W8.heap.size ≤ p.1 from fun p hp => by
  rcases hR8 with ⟨_, rfl⟩ | ⟨g, cur, _, rfl, hg, _⟩
  · cases hp
  · obtain rfl := List.mem_singleton.1 hp; exact hg)
 clear hR6 hB6 hR8 hB8 hX8 E6 O9 P9 U9
 unfold Rg.St.arr at cn
 dsimp only at cn
 go_upto_region 10 with (first | ((with_reducible refine im_load_state rfl rfl ?_); apply LoadIm.mk rfl; (focus (with_reducible exact T9.out)); dsimp only) | (go_at_call 10; ((with_reducible refine ((cn).out).mono ?_); rintro x w10 ⟨Br, rfl, h10, _⟩; have H10 := qh h10; clear h10)))
 clear cn T9 BA BG K9
 rw [show (Rg.St.s ⟨u.g, u.r, A6, c6⟩) = u from rfl] at H10
 go_wp2_with fail
 go_loopw [9] (fun i wr => ∃ (k : Nat) (R : List (Nat × TypeId × Array Value)), k ≤ u.g.shots.length ∧ i = .int .i64 k ∧ Rows6 R A6 u.g.shots.length W3.heap.size W8.heap.size ∧ HoldB LP w Br [u] (R ++ ((bs, 40, Im.cells u.g (.slice A6 u.g.shots.length c6) u.r) :: (bt, 40, Im.cells u.g (.slice A8 u.g.shots.length c8) u.r) :: R8)) wr) (fun i _ => u.g.shots.length - (intOf i).toNat)
 case atStart => exact ⟨0, R6, Nat.zero_le _, rfl, E8.out, H10.out⟩
 case round =>
  clear H10 E8
  obtain ⟨k, R, hk, rfl, hR, hH⟩ := hrel
  have HH := qh hH
  have HR := qh hR
  clear hH hR
  have s58 : wr.cell? ⟨bs, 58, none⟩ = some (.slice A6 u.g.shots.length c6) := ((HH.out.box (List.mem_append_right _ List.mem_cons_self)).cell 58).trans ((Im.cells_g _ _ _ 58 (by omega)).trans (Gm.cells_58 _ _))
  by_cases hlt : k < u.g.shots.length
  · have hki : (k : Int) < (u.g.shots.length : Int) := by omega
    obtain ⟨h0, _⟩ | ⟨g, cur, rfl, rfl, hlo, hhi, hcs⟩ := HR.out
    · omega
    · have hG := qh (HH.out.box (b := g) (t := 72) (cs := cur) (List.mem_append_left _ (List.mem_singleton_self _)))
      have hS := qh (HH.out.box (b := bs) (List.mem_append_right _ List.mem_cons_self))
      have hT := qh (HH.out.box (b := bt) (List.mem_append_right _ (List.mem_cons_of_mem _ List.mem_cons_self)))
      have hd : ∀ p ∈ ((bs, 40, Im.cells u.g (.slice (some ⟨g, 0, none⟩) u.g.shots.length c6) u.r) :: (bt, 40, Im.cells u.g (.slice A8 u.g.shots.length c8) u.r) :: R8), p.1 ≠ g := fun p hp => by
       rcases List.mem_cons.1 hp with rfl | hp
       · exact Box.apart hS.out hG.out (by decide)
       · rcases List.mem_cons.1 hp with rfl | hp
         · exact Box.apart hT.out hG.out (by decide)
         · have := S8.out p hp; omega
      have hlt2 : k * 6 + 5 < cur.size := by omega
      have kc : wr.cell? ⟨g, k * 6 + 5, none⟩ = some cur[k * 6 + 5] := by rw [hG.out.cell, Array.getElem?_eq_getElem hlt2]
      have fc := hG.out.free (k * 6 + 5)
      have lc := hG.out.lt
      have NX := qh (HoldB.put C.ob (HH.out : HoldB LP w Br [u] ((g, 72, cur) :: _) wr) hd (k * 6 + 5) (.int .i64 (-5)))
      have NR := qh (show Rows6 [(g, 72, cur.setIfInBounds (k * 6 + 5) (.int .i64 (-5)))] (some ⟨g, 0, none⟩) u.g.shots.length W3.heap.size W8.heap.size from .inr ⟨g, _, rfl, rfl, hlo, hhi, by rw [Array.size_setIfInBounds]; exact hcs⟩)
      clear hd hG hS hT HH HR hlo hhi hcs
      go_wp2_with fail
      go_roundw
      case rel => exact ⟨k + 1, _, by omega, by go_num, NR.out, NX.out⟩
      case measure => simp [intOf]; omega
  · have hki : ¬ (k : Int) < (u.g.shots.length : Int) := by omega
    go_upto_region 16 with fail
    have HL := qh (HH.out.less (L' := (bt, 40, Im.cells u.g (.slice A8 u.g.shots.length c8) u.r) :: R8) (fun p hp => List.mem_append_right _ (List.mem_cons_of_mem _ hp)))
    clear HH HR s58 hki
    have t0 : wr.cell? ⟨bt, 0, none⟩ = some (.int .i64 u.g.frame) := ((HL.out.box List.mem_cons_self).cell 0).trans ((Im.cells_g _ _ _ 0 (by decide)).trans (Gm.cells_0 _ _))
    have a1 := qh (B15.at_yes C (Rg.of_fine UF.out) u.g.frame u (Rg.run_at UF.out) HL.out)
    generalize hfr : u.g.frame = fr at *
    go_upto_region 17 with (first | (go_at_call 19; ((with_reducible refine ((a1).out).mono ?_); rintro x w16 ⟨ht, h16⟩; obtain ⟨A10, c10, R10, rfl, hr10, hx10, hy10, hz10⟩ := told_rows ht; have H16 := qh ((HoldB.join C.ob HL.out hz10 hx10).alloc C.ob (Im.cells u.g (.slice A10 u.g.shots.length c10) u.r) 40); have Q10 := qh hr10; have X10 := qh hy10; clear h16 ht hr10 hx10 hy10 hz10)) | (with_reducible refine alloc_state rfl rfl ?_) | (with_reducible refine im_store_new rfl rfl rfl rfl Im.zero_size rfl ?_))
    clear a1 t0
    have LO := qh (show ∀ p ∈ R8, p.1 < wr.heap.size from fun p hp => (HL.out.boxes p (List.mem_cons_of_mem _ hp)).lt)
    generalize hW17 : w16.alloc (.cells (Im.cells u.g (.slice A10 u.g.shots.length c10) u.r) 40) = W17 at H16 ⊢
    generalize w16.heap.size = bx at H16 ⊢
    have HI := qh Q10.out
    generalize w16.heap.size = hi16 at HI Q10
    clear hW17 HL
    have n63 := qh (show u.g.shots.length ≤ maxLen by have := UF.out.few; unfold maxLen; omega)
    have LX := fun X (L' : List (Nat × TypeId × Array Value)) (h : HoldB LP w Br [u] L' X) (hs : ∀ p ∈ R10, p ∈ L') => rows6_lies (W := X) Q10.out rfl (fun p hp => h.boxes p (hs p hp)) X10.out
    have LT := fun X (L' : List (Nat × TypeId × Array Value)) (h : HoldB LP w Br [u] L' X) (hs : ∀ p ∈ R8, p ∈ L') => rows6_lies (W := X) Q8.out rfl (fun p hp => h.boxes p (hs p hp)) X8.out
    have xs := fun X (h : HoldB LP w Br [u] ((bx, 40, Im.cells u.g (.slice A10 u.g.shots.length c10) u.r) :: (R10 ++ ((bt, 40, Im.cells u.g (.slice A8 u.g.shots.length c8) u.r) :: R8))) X) => qh ((foldsame_any u.g u.g u.r u.r A10 A8 _ _ c10 c8 X rfl rfl (LX X _ h (fun p hp => List.mem_cons_of_mem _ (List.mem_append_left _ hp))) (LT X _ h (fun p hp => List.mem_cons_of_mem _ (List.mem_append_right _ (List.mem_cons_of_mem _ hp)))) n63.out n63.out).mono fun e X' hh => show e = .returned (.bool true) ∧ HoldB LP w Br [u] ((bx, 40, Im.cells u.g (.slice A10 u.g.shots.length c10) u.r) :: (R10 ++ ((bt, 40, Im.cells u.g (.slice A8 u.g.shots.length c8) u.r) :: R8))) X' from ⟨by obtain ⟨⟨v, e1, e2⟩, _⟩ := hh; obtain rfl : v = true := e2.2 ⟨Gm.Eq.refl _, rfl, fun _ _ => ⟨rfl, rfl⟩⟩; exact e1, h.call C.ob hh.2⟩)
    have BX := qh (H16.out.box List.mem_cons_self)
    have BT := qh (H16.out.box (b := bt) (List.mem_cons_of_mem _ (List.mem_append_right _ List.mem_cons_self)))
    go_upto_region 19 with (first | ((with_reducible refine im_load_state_g ?_ rfl ?_); (focus first | rfl | kernel_rfl | simp [Region.wanted, yielded]); apply LoadIm.mk rfl; (focus first | (with_reducible exact BX.out) | (with_reducible exact BT.out)); dsimp only) | (go_at_call 27; ((with_reducible refine ((xs _ H16.out).out).mono ?_); rintro x w17 ⟨rfl, h17⟩; have H17 := qh h17; clear h17)))
    have H18 := qh (H17.out.less (L' := R10 ++ ((bx, 40, Im.cells u.g (.slice A10 u.g.shots.length c10) u.r) :: (bt, 40, Im.cells u.g (.slice A8 u.g.shots.length c8) u.r) :: R8)) (fun p hp => by
     rcases List.mem_append.1 hp with hp | hp
     · exact List.mem_cons_of_mem _ (List.mem_append_left _ hp)
     · rcases List.mem_cons.1 hp with rfl | hp
       · exact List.mem_cons_self
       · exact List.mem_cons_of_mem _ (List.mem_append_right _ hp)))
    clear xs BX BT H16 H17 LX
    go_wp2_with fail
    go_loopw [12] (fun i wq => ∃ (k : Nat) (R : List (Nat × TypeId × Array Value)), k ≤ u.g.shots.length ∧ i = .int .i64 k ∧ Rows6 R A10 u.g.shots.length wr.heap.size hi16 ∧ HoldB LP w Br [u] (R ++ ((bx, 40, Im.cells u.g (.slice A10 u.g.shots.length c10) u.r) :: (bt, 40, Im.cells u.g (.slice A8 u.g.shots.length c8) u.r) :: R8)) wq) (fun i _ => u.g.shots.length - (intOf i).toNat)
    case atStart => exact ⟨0, R10, Nat.zero_le _, rfl, HI.out, H18.out⟩
    case round =>
     clear H18 HI Q10 X10
     obtain ⟨k, R, hk, rfl, hR, hH⟩ := hrel
     rename World => wq
     have HH := qh hH
     have HR := qh hR
     clear hH hR
     have s58 : wq.cell? ⟨bx, 58, none⟩ = some (.slice A10 u.g.shots.length c10) := ((HH.out.box (List.mem_append_right _ List.mem_cons_self)).cell 58).trans ((Im.cells_g _ _ _ 58 (by omega)).trans (Gm.cells_58 _ _))
     by_cases hlt : k < u.g.shots.length
     · have hki : (k : Int) < (u.g.shots.length : Int) := by omega
       obtain ⟨h0, _⟩ | ⟨g, cur, rfl, rfl, hlo, hhi, hcs⟩ := HR.out
       · omega
       · have hG := qh (HH.out.box (b := g) (t := 72) (cs := cur) (List.mem_append_left _ (List.mem_singleton_self _)))
         have hS := qh (HH.out.box (b := bx) (List.mem_append_right _ List.mem_cons_self))
         have hT := qh (HH.out.box (b := bt) (List.mem_append_right _ (List.mem_cons_of_mem _ List.mem_cons_self)))
         have hd : ∀ p ∈ ((bx, 40, Im.cells u.g (.slice (some ⟨g, 0, none⟩) u.g.shots.length c10) u.r) :: (bt, 40, Im.cells u.g (.slice A8 u.g.shots.length c8) u.r) :: R8), p.1 ≠ g := fun p hp => by
          rcases List.mem_cons.1 hp with rfl | hp
          · exact Box.apart hS.out hG.out (by decide)
          · rcases List.mem_cons.1 hp with rfl | hp
            · exact Box.apart hT.out hG.out (by decide)
            · have := LO.out p hp; omega
         have hlt2 : k * 6 < cur.size := by omega
         have kc : wq.cell? ⟨g, k * 6, none⟩ = some cur[k * 6] := by rw [hG.out.cell, Array.getElem?_eq_getElem hlt2]
         have fc := hG.out.free (k * 6)
         have lc := hG.out.lt
         have NX := qh (HoldB.put C.ob (HH.out : HoldB LP w Br [u] ((g, 72, cur) :: _) wq) hd (k * 6) (.int .i64 77))
         have NR := qh (show Rows6 [(g, 72, cur.setIfInBounds (k * 6) (.int .i64 77))] (some ⟨g, 0, none⟩) u.g.shots.length wr.heap.size hi16 from .inr ⟨g, _, rfl, rfl, hlo, hhi, by rw [Array.size_setIfInBounds]; exact hcs⟩)
         clear hd hG hS hT HH HR hlo hhi hcs
         go_wp2_with fail
         go_roundw
         case rel => exact ⟨k + 1, _, by omega, by go_num, NR.out, NX.out⟩
         case measure => simp [intOf]; omega
     · have hki : ¬ (k : Int) < (u.g.shots.length : Int) := by omega
       go_upto_region 23 with fail
       have HL := qh (HH.out.less (L' := (bt, 40, Im.cells u.g (.slice A8 u.g.shots.length c8) u.r) :: R8) (fun p hp => List.mem_append_right _ (List.mem_cons_of_mem _ hp)))
       clear HH HR s58 hki
       have t0 : wq.cell? ⟨bt, 0, none⟩ = some (.int .i64 fr) := ((HL.out.box List.mem_cons_self).cell 0).trans ((Im.cells_g _ _ _ 0 (by decide)).trans ((Gm.cells_0 _ _).trans (by rw [hfr])))
       have a1 := qh (B15.at_yes C (Rg.of_fine UF.out) fr u (by rw [← hfr]; exact Rg.run_at UF.out) HL.out)
       go_upto_region 24 with (first | (go_at_call 19; ((with_reducible refine ((a1).out).mono ?_); rintro x w23 ⟨ht, h23⟩; obtain ⟨A12, c12, R12, rfl, hr12, hx12, hy12, hz12⟩ := told_rows ht; have H23 := qh ((HoldB.join C.ob HL.out hz12 hx12).alloc C.ob (Im.cells u.g (.slice A12 u.g.shots.length c12) u.r) 40); have Q12 := qh hr12; have X12 := qh hy12; clear h23 ht hr12 hx12 hy12 hz12)) | (with_reducible refine alloc_state rfl rfl ?_) | (with_reducible refine im_store_new rfl rfl rfl rfl Im.zero_size rfl ?_))
       clear a1 t0 HL
       generalize hW24 : w23.alloc (.cells (Im.cells u.g (.slice A12 u.g.shots.length c12) u.r) 40) = W24 at H23 ⊢
       generalize w23.heap.size = bz at H23 Q12 ⊢
       clear hW24
       have ct := fun X (h : HoldB LP w Br [u] ((bz, 40, Im.cells u.g (.slice A12 u.g.shots.length c12) u.r) :: (R12 ++ ((bt, 40, Im.cells u.g (.slice A8 u.g.shots.length c8) u.r) :: R8))) X) => qh ((told15_any C X).mono fun e X' hh => show e = .returned (.bool true) ∧ HoldB LP w Br [u] ((bz, 40, Im.cells u.g (.slice A12 u.g.shots.length c12) u.r) :: (R12 ++ ((bt, 40, Im.cells u.g (.slice A8 u.g.shots.length c8) u.r) :: R8))) X' from ⟨hh.1, h.call C.ob hh.2⟩)
       have LX := fun X (L' : List (Nat × TypeId × Array Value)) (h : HoldB LP w Br [u] L' X) (hs : ∀ p ∈ R12, p ∈ L') => rows6_lies (W := X) Q12.out rfl (fun p hp => h.boxes p (hs p hp)) X12.out
       have xs := fun X (h : HoldB LP w Br [u] ((bz, 40, Im.cells u.g (.slice A12 u.g.shots.length c12) u.r) :: (R12 ++ ((bt, 40, Im.cells u.g (.slice A8 u.g.shots.length c8) u.r) :: R8))) X) => qh ((foldsame_any u.g u.g u.r u.r A12 A8 _ _ c12 c8 X rfl rfl (LX X _ h (fun p hp => List.mem_cons_of_mem _ (List.mem_append_left _ hp))) (LT X _ h (fun p hp => List.mem_cons_of_mem _ (List.mem_append_right _ (List.mem_cons_of_mem _ hp)))) n63.out n63.out).mono fun e X' hh => show e = .returned (.bool true) ∧ HoldB LP w Br [u] ((bz, 40, Im.cells u.g (.slice A12 u.g.shots.length c12) u.r) :: (R12 ++ ((bt, 40, Im.cells u.g (.slice A8 u.g.shots.length c8) u.r) :: R8))) X' from ⟨by obtain ⟨⟨v, e1, e2⟩, _⟩ := hh; obtain rfl : v = true := e2.2 ⟨Gm.Eq.refl _, rfl, fun _ _ => ⟨rfl, rfl⟩⟩; exact e1, h.call C.ob hh.2⟩)
       go_wp2_with (first | ((with_reducible refine im_load_state_g ?_ rfl ?_); (focus first | rfl | kernel_rfl | simp [Region.wanted, yielded]); apply LoadIm.mk rfl; (focus first | (with_reducible exact BZ.out) | (with_reducible exact BT.out)); dsimp only) | (go_at_call 6; ((with_reducible refine ((ct _ H23.out).out).mono ?_); rintro x w25 ⟨rfl, h25⟩; have H25 := qh h25; have BZ := qh (h25.box List.mem_cons_self); have BT := qh (h25.box (b := bt) (List.mem_cons_of_mem _ (List.mem_append_right _ List.mem_cons_self))); clear h25)) | (go_at_call 27; ((with_reducible refine ((xs _ H25.out).out).mono ?_); rintro x w26 ⟨rfl, h26⟩)))
       go_ret
       exact ⟨rfl, h26.down⟩
theorem own15_law {LP : RingP} (C : RingC LP) (seed : ByteArray) (l : List Fd.Turn) (A : Option Addr) (n c : Nat) (w : World) (hsz : seed.size ≤ maxLen) (hn : n = l.length) (hn63 : n ≤ maxLen) (hl : Lies w w.heap.size 25 A n (l.flatMap Fd.Turn.cells)) (hty : ∀ q ∈ l, q.ty) :
 Calls Tryz.prog 5 #[.string seed, .slice A n c] w fun e w' => e = .returned (.bool true) ∧ Below w.heap.size w w' := by
 by_cases h20 : seed.size ≤ 20
 · have hs : (seed.size : Int) ≤ 20 := by omega
   by_cases hhi : n ≤ 8
   · exact own15_main C seed l A n c w h20 hn hhi hl hty
   · have hn1 : ¬ (n : Int) ≤ 8 := by omega
     have ct := fun X => qh (told15_any C X)
     clear hl hty hn hsz hn63
     go_enter Tryz.func5, Tryz.ntmps5
     go_wp2_with (go_at_call 6; ((with_reducible refine ((ct _).out).mono ?_); rintro e w1 ⟨rfl, hb⟩))
     go_ret
     exact ⟨rfl, hb⟩
 · have hs : ¬ (seed.size : Int) ≤ 20 := by omega
   have ct := fun X => qh (told15_any C X)
   clear hl hty hn hsz hn63
   go_enter Tryz.func5, Tryz.ntmps5
   go_wp2_with (go_at_call 6; ((with_reducible refine ((ct _).out).mono ?_); rintro e w1 ⟨rfl, hb⟩))
   go_ret
   exact ⟨rfl, hb⟩
open Go.RowKit
theorem lies_off {w : World} {b size n B : Nat} {A : Option Addr} {xs : List Value} {t : TypeId} {a : Option Addr} {m c : Nat} (h : Lies w b size A n xs) {u : Value} (h0 : xs[0]? = some u) (hu : ∀ a m c, u ≠ .slice a m c) (hB : Box w B t #[.slice a m c]) (hn : n ≠ 0) (ad : Addr) (e : A = some ad) : ad.block ≠ B := fun eb => by
 have hc := h.cell ad e hn 0 u h0
 rw [show ad.add 0 = ad from rfl] at hc
 unfold World.cell? at hc
 rw [eb, hB.is] at hc
 dsimp only at hc
 split at hc
 · cases hc
 · cases ho : ad.off with
   | zero => rw [ho] at hc; injection hc with hc; exact hu _ _ _ hc.symm
   | succ k => rw [ho] at hc; simp at hc
theorem lies_set {w : World} {c m B i : Nat} {A' : Option Addr} {xs : List Value} {u : Value} (hl : Lies w w.heap.size c A' m xs) (hA : m ≠ 0 → ∀ ad, A' = some ad → ad.block ≠ B) : Lies (w.setCell ⟨B, i, none⟩ u) (w.setCell ⟨B, i, none⟩ u).heap.size c A' m xs := by
 refine ⟨hl.len, fun hn => by obtain ⟨ad, e, hb⟩ := hl.start hn; exact ⟨ad, e, by simpa using hb⟩, fun ad e hn j u' hj => ?_⟩
 rw [World.cell?_of_block (w := w) (by
  rw [show (ad.add j).block = ad.block from by unfold Addr.add; split <;> rfl]
  exact heap_setCell_other w ⟨B, i, none⟩ _ u (hA hn ad e))]
 exact hl.cell ad e hn j u' hj
theorem RowSt.ring {w : World} {A : Option Addr} {n B : Nat} {L : List Rg.St} {a : Option Addr} {m c : Nat} (h : RowSt w A n L) (hB : Box w B 57 #[.slice a m c]) (u : Value) : RowSt (w.setCell ⟨B, 0, none⟩ u) A n L := by
 have hl := h.len
 refine ⟨h.len, lies_set h.row fun hn ad e => ?_, fun q hq => lies_set (h.shots q hq) fun hn ad e => ?_⟩
 · cases L with
   | nil => exact absurd hl hn
   | cons q L => exact lies_off h.row (u := .int .i64 q.g.frame) (by
    rw [List.flatMap_cons, List.getElem?_append_left (by rw [Rg.St.len]; decide)]
    unfold Rg.St.cells
    rw [Array.getElem?_toList]
    exact q.first) (fun a m c h => by cases h) hB hn ad e
 · cases hs : q.g.shots with
   | nil => rw [hs] at hn; exact absurd rfl hn
   | cons s l =>
    refine lies_off (h.shots q hq) (u := .int .i64 s.owner) ?_ (fun a m c h => by cases h) hB hn ad e
    rw [hs]
    rfl
theorem st_fill1 (g : Gm.G) (s : Value) (r : Ros.R) : Instr.fill (fun i => some (i * 76, 76)) ((Array.range (1 * 76)).map ((Value.agg Im.zero).cells[· % (Value.agg Im.zero).cells.size]!)) [(0, .agg (Im.cells g s r))] = some (Im.cells g s r) := by kernel_rfl
theorem st_parts : ∃ i, Tryz.prog.info? 40 = some i ∧ i.zero = some (.agg Im.zero) ∧ i.size = 76 := by
 have h1 := state_info
 have h2 := state_zero
 cases hq : Tryz.prog.info? 40 with
 | none => rw [hq] at h1; cases h1
 | some ie =>
  rw [hq] at h1 h2
  exact ⟨ie, rfl, by simpa using h2, by simpa using h1⟩
theorem st_one (g : Gm.G) (s : Value) (r : Ros.R) (w : World) : (Instr.buildSlice 42 1 #[(0, .agg (Im.cells g s r))]).run Tryz.prog w = .ok (.slice (some ⟨w.heap.size, 0, none⟩) 1 1) (w.alloc (.cells (Im.cells g s r) 40)) := by
 obtain ⟨ie, hq, hz, hs⟩ := st_parts
 exact run_buildSlice w _ _ 1 _ _ ie (.agg Im.zero) Tryz.underlying42 hq hz (by rw [hs]; decide) (by rw [hs]; decide) (by rw [hs]; exact st_fill1 g s r)
theorem RefRing.call {B : Nat} {L : List Rg.St} {X X' : World} (h : RefRing B L X) (hb : Below X.heap.size X X') : RefRing B L X' := by
 obtain ⟨A, c, hB, hR, h1, h2⟩ := h.box
 exact ⟨⟨A, c, hB.below hb hB.lt, hR.call hb, h1, h2⟩⟩
section
variable {ops : Array Oper} {rest : List Oper} {o : Oper} {a : Act} {w : World} {Q : Exit → Act → World → Prop} {x y : Operand}
def LoadSt (ops : Array Oper) (Q : Exit → Act → World → Prop) (rest : List Oper) (dst : Option Tmp) (p : Value) (a : Act) (w : World) : Prop :=
 ∃ (ad : Addr) (q : Rg.St), p = .pointer (some ad) ∧ (∀ j, j < 76 → w.cell? (ad.add j) = q.cells[j]?) ∧ wpList Tryz.prog ops Q rest (a.put dst (.agg (Im.cells q.g (.slice q.A q.g.shots.length q.c) q.r))) w
theorem LoadSt.mk {dst : Option Tmp} {p : Value} {ad : Addr} {q : Rg.St} (hp : p = .pointer (some ad)) (hc : ∀ j, j < 76 → w.cell? (ad.add j) = q.cells[j]?) (h : wpList Tryz.prog ops Q rest (a.put dst (.agg (Im.cells q.g (.slice q.A q.g.shots.length q.c) q.r))) w) : LoadSt ops Q rest dst p a w := ⟨ad, q, hp, hc, h⟩
theorem st_load_at (hgd : o.guard = none) (ho : o.op = .load 40 x) (h : LoadSt ops Q rest o.dst (a.eval x) a w) : wpList Tryz.prog ops Q (o :: rest) a w := by
 obtain ⟨ad, q, hx, hc, h⟩ := h
 refine wpList_plain hgd fun _ hK => ?_
 unfold Oper.wp
 rw [exec_load_any (cs := q.cells) ho hx (fun j v hv => by
  have hj : j < 76 := by have := (List.getElem?_eq_some_iff.1 hv).1; rwa [q.len] at this
  rw [hc j hj]; exact hv) Tryz.underlying40 rfl (by rw [q.len]; exact state_info)]
 have e : q.cells.toArray = Im.cells q.g (.slice q.A q.g.shots.length q.c) q.r := by unfold Rg.St.cells Rg.St.arr; rw [Array.toArray_toList]
 rw [e]
 exact hK _ _ h
def StoreZ (ops : Array Oper) (Q : Exit → Act → World → Prop) (rest : List Oper) (dst : Option Tmp) (p v : Value) (a : Act) (w : World) : Prop :=
 ∃ (B : Nat) (old : Array Value), p = .pointer (some ⟨B, 0, none⟩) ∧ v = .agg Im.zero ∧ Box w B 40 old ∧ old.size = 76 ∧ wpList Tryz.prog ops Q rest (a.put dst undef) (w.setRow B Im.zero)
theorem StoreZ.mk {dst : Option Tmp} {p v : Value} {B : Nat} {old : Array Value} (hp : p = .pointer (some ⟨B, 0, none⟩)) (hv : v = .agg Im.zero) (hB : Box w B 40 old) (ho : old.size = 76) (h : wpList Tryz.prog ops Q rest (a.put dst undef) (w.setRow B Im.zero)) : StoreZ ops Q rest dst p v a w := ⟨B, old, hp, hv, hB, ho, h⟩
theorem im_store_zero (hgd : o.guard = none) (ho : o.op = .store 40 x y) (h : StoreZ ops Q rest o.dst (a.eval x) (a.eval y) a w) : wpList Tryz.prog ops Q (o :: rest) a w := by
 obtain ⟨B, old, hx, hy, hB, h76, h⟩ := h
 exact wpList_store_blk hgd ho hx hy hB (by rw [Im.zero_size]; exact state_info) (by rw [Im.zero_size]; exact h76) (by kernel_rfl) h
end
end Go.Proofs.YtbdlpbnfcnhajaaGreat
namespace Rj
open Go Go.RowKit Rz
def done (n0 : Nat) (listed : Array Bool) : Nat → Bool := fun j => decide (n0 ≤ j) && listed.getD j false
def also (S : Nat → Bool) (i : Nat) : Nat → Bool := fun j => S j || j == i
structure Inv (l : List Oper) (n0 n : Nat) (u : Nat → Value) (V : Nat → (Nat → Value) → World → Prop) (D : (Nat → Bool) → (Nat → Value) → World → Prop) (K : World → Prop) (a0 : Act) (listed : Array Bool) (a : Act) (w : World) : Prop where
 head : HeadInv .any l.toArray n listed
 shape : ∃ vm : Nat → Value, Rx.Shape l (fun j => if j < n0 then u j else vm j) a0 (fun j => listed.getD j false) a ∧ (∀ j, n0 ≤ j → j < n → listed.getD j false = true → V j vm w) ∧ D (done n0 listed) vm w
 world : K w
section
variable {P : Program} {l : List Oper} {n0 n : Nat} {K : World → Prop} {V : Nat → (Nat → Value) → World → Prop} {D : (Nat → Bool) → (Nat → Value) → World → Prop} {A : Nat → Act} {u : Nat → Value}
theorem all_ {Q : Exit → Act → World → Prop} (hr : Run P K (l.take n0) A u) (ok : Ok n0 n l) (hDc : ∀ S vm vm' w, (∀ j, n0 ≤ j → vm j = vm' j) → D S vm w → D S vm' w) (hVd : ∀ j vm vm' w, n0 ≤ j → j < n → (∀ k, k = j ∨ dep l j k = true → vm k = vm' k) → V j vm w → V j vm' w)
 (hmid : ∀ i o, n0 ≤ i → i < n → l[i]? = some o → ∀ (S : Nat → Bool) (vm : Nat → Value) w, K w → S i = false → (∀ j, n0 ≤ j → j < n → dep l i j = true → S j = true) → (∀ j, n0 ≤ j → j < n → S j = true → V j vm w) → D S vm w → Gives P o (putAll ((l.drop n0).take (n - n0)) n0 vm (A n0)) w (fun v w' => V i (upd vm i v) w' ∧ K w' ∧ (∀ j, n0 ≤ j → j < n → j ≠ i → S j = true → V j vm w → V j vm w') ∧ D (also S i) (upd vm i v) w'))
 (htail : ∀ (S : Nat → Bool) (vm : Nat → Value) w, K w → (∀ j, n0 ≤ j → j < n → S j = true) → (∀ j, n0 ≤ j → j < n → V j vm w) → D S vm w → wpList P l.toArray Q (l.drop n) (putAll ((l.drop n0).take (n - n0)) n0 vm (A n0)) w) :
 ∀ (m : Nat) (listed : Array Bool) (a : Act) (w : World), Inv l n0 n u V D K (A 0) listed a w → Rx.unl (fun i => listed.getD i false) n = m → wpAny P .any l.toArray Q (m + (l.length - n)) listed a w := by
 have hll : l.toArray.size = l.length := by simp
 have shapeA : ∀ vm : Nat → Value, Rx.Shape l (fun j => if j < n0 then u j else vm j) (A 0) (fun j => decide (j < n)) (putAll ((l.drop n0).take (n - n0)) n0 vm (A n0)) := fun vm => by
  have h := putAll_shape ok (v := fun j => if j < n0 then u j else vm j) (a0 := A 0) (n - n0) n0 (A n0) (by have := ok.le; omega) (hr.shape ok (fun j hj => by simp [hj]) n0 (Nat.le_refl _))
  rw [putAll_congr (v := fun j => if j < n0 then u j else vm j) (v' := vm) _ _ _ (fun j hj => by simp; intro h; omega)] at h
  exact h
 intro m
 induction m with
 | zero =>
  intro listed a w inv hm
  have hall := Rx.unl_zero (f := fun i => listed.getD i false) (n := n) hm
  have e : listed = Array.replicate n true ++ Array.replicate (l.length - n) false := by
   apply Array.ext
   · rw [inv.head.size]; simp; have := ok.lt; omega
   · intro i h1 h2
     have hs := inv.head.size
     by_cases hin : i < n
     · have := hall i hin
       simp [h1] at this
       rw [Array.getElem_append_left (by simpa using hin)]
       simpa using this
     · have := inv.head.tail i (by omega) (by rw [← hs]; exact h1)
       simp [h1] at this
       rw [Array.getElem_append_right (by simp; omega)]
       simpa using this
  obtain ⟨vm, hs, hV, hD⟩ := inv.shape
  have ea : a = putAll ((l.drop n0).take (n - n0)) n0 vm (A n0) := hs.ext (shapeA vm) fun j o hj => by
   have hjl : j < l.length := (List.getElem?_eq_some_iff.1 hj).1
   by_cases hjn : j < n
   · rw [hall j hjn]; simp [hjn]
   · have := inv.head.tail j (by omega) (by rw [hll]; exact hjl)
     rw [getD_both this]; simp [hjn]
  have hw := htail _ vm w inv.world (fun j h1 h2 => (by unfold done; rw [hall j h2]; simp [h1])) (fun j h1 h2 => hV j h1 h2 (hall j h2)) hD
  rw [← ea] at hw
  have hdl : (l.drop n).length = l.length - n := by simp
  have := wpAny_of_seq (md := .any) (Q' := Q) (l.drop n) n listed a w (fun j => by simp [List.getElem?_drop]) (by rw [hdl, e]; exact ok.seq) hw
  rw [hdl] at this
  rw [Nat.zero_add]
  exact this
 | succ m ih =>
  intro listed a w inv hm
  rw [show m + 1 + (l.length - n) = (m + (l.length - n)) + 1 by omega]
  -- somebody of the head has not been
  have hex : ∃ i, i < n ∧ listed.getD i false = false := by
   refine Classical.byContradiction fun hno => ?_
   have : ∀ k, k ≤ n → Rx.unl (fun i => listed.getD i false) k = 0 := by
    intro k
    induction k with
    | zero => intro _; rfl
    | succ k ihk =>
     intro hk
     unfold Rx.unl
     rw [ihk (by omega)]
     cases h : listed.getD k false
     · exact absurd ⟨k, by omega, h⟩ hno
     · simp
   have := this n (Nat.le_refl _)
   omega
  obtain ⟨i0, hi0, hun0⟩ := hex
  have his0 : i0 < listed.size := by rw [inv.head.size, hll]; have := ok.lt; omega
  refine ⟨fun hr' => ?_, fun i hi => ?_⟩
  · exfalso
    have key : ∀ i, i < n → listed.getD i false = true := by
     intro i
     induction i using Nat.strongRecOn with
     | _ i ihi =>
      intro hin
      cases hu : listed.getD i false
      · have hil : i < l.length := by have := ok.lt; omega
        have ho : l[i]? = some (l[i]'hil) := List.getElem?_eq_getElem hil
        have his : i < listed.size := by rw [inv.head.size, hll]; exact hil
        have : i ∈ Region.ready .any l.toArray listed := mem_ready.2 ⟨getD_in his hu, _, (by rw [List.getElem?_toArray]; exact ho), fun e he hb => by
         have hd := ok.down i _ hin ho e he hb
         exact ihi e.on hd (by omega)⟩
        rw [hr'] at this; cases this
      · rfl
    rw [key i0 hi0] at hun0; cases hun0
  · have hin : i < n := by
     refine Classical.byContradiction fun hge => ?_
     exact tail_waits ok.sink ok.chain (by rw [hll]; exact ok.lt) inv.head (n - i0) i0 rfl hi0 (getD_in his0 hun0) i (by omega) hi
    obtain ⟨hun, o, ho', hdeps⟩ := mem_ready.1 hi
    have ho : l[i]? = some o := by simpa using ho'
    have hil : i < l.length := (List.getElem?_eq_some_iff.1 ho).1
    have his : i < listed.size := by rw [inv.head.size, hll]; exact hil
    have hun' : listed.getD i false = false := getD_both hun
    have getset : ∀ j, (listed.setIfInBounds i true).getD j false = (listed.getD j false || j == i) := fun j => by
     by_cases hji : j = i
     · subst hji; simp [his]
     · rw [getD_set_ne false (fun e => hji e.symm)]; simp [hji]
    have hun2 : Rx.unl (fun j => (listed.setIfInBounds i true).getD j false) n = m := by
     have := Rx.unl_set (f := fun j => listed.getD j false) (g := fun j => (listed.setIfInBounds i true).getD j false) (i := i) hun' (by rw [getset]; simp) (fun j hj => by rw [getset]; simp [hj]) hin
     omega
    obtain ⟨vm, hs, hV, hD⟩ := inv.shape
    have next : ∀ v w', (i < n0 → v = u i) → (n0 ≤ i → V i (upd vm i v) w') → K w' → (∀ j, n0 ≤ j → j < n → j ≠ i → done n0 listed j = true → V j vm w → V j vm w') → D (done n0 (listed.setIfInBounds i true)) (upd vm i v) w' → wpAny P .any l.toArray Q (m + (l.length - n)) (listed.setIfInBounds i true) (a.put o.dst v) w' := fun v w' h1 h2 hKw hst hDn => by
     refine ih _ _ _ ⟨inv.head.set hi hin, ⟨upd vm i v, ?_, fun j hj1 hj2 hl => ?_, hDn⟩, hKw⟩ hun2
     · have hs' := shape_same_v (v' := fun j => if j < n0 then u j else upd vm i v j) hs fun j hj => by
        by_cases hjn : j < n0
        · simp [hjn]
        · have : j ≠ i := fun e => by subst e; rw [hun'] at hj; cases hj
          simp [hjn, this, upd]
       have hp := hs'.put ok.dist ho
       have ev : (if i < n0 then u i else upd vm i v i) = v := by
        by_cases hin0 : i < n0
        · simp [hin0, h1 hin0]
        · simp [hin0, upd]
       rw [ev] at hp
       exact hp.congr fun j o hj => (getset j).symm
     · by_cases hji : j = i
       · subst hji; exact h2 hj1
       · rw [getset] at hl
         have hlj : listed.getD j false = true := by simpa [hji] using hl
         refine hVd j vm _ w' hj1 hj2 (fun k hk => ?_) (hst j hj1 hj2 hji (by unfold done; rw [hlj]; simp [hj1]) (hV j hj1 hj2 hlj))
         have hki : k ≠ i := fun e => by
          subst e
          rcases hk with rfl | hk
          · exact hji rfl
          · have hjl : j < l.length := by have := ok.lt; omega
            have hoj : l[j]? = some (l[j]'hjl) := List.getElem?_eq_getElem hjl
            obtain ⟨e, he, hb, hon⟩ := dep_spec hoj hk
            have := inv.head.closed j _ (by rw [List.getElem?_toArray]; exact hoj) hlj e he hb
            rw [hon, hun'] at this; cases this
         simp [upd, hki]
    have before : ∀ j, dep l i j = true → listed.getD j false = true := fun j hd => by
     obtain ⟨e, he, hb, rfl⟩ := dep_spec ho hd
     exact hdeps e he hb
    unfold wpOp
    simp only [ho', Region.wanted, ok.guard i o hin ho, if_true]
    refine .inl ?_
    by_cases hi0' : i < n0
    · have ho2 : (l.take n0)[i]? = some o := by rw [List.getElem?_take, if_pos hi0']; exact ho
      have exec : execOp a.eval o = execOp (A i).eval o := execOp_congr o (fun cs b => Region.noSelect_spec ok.sel i o cs b ho') fun x hx => by
       cases x with
       | tmp t =>
        have ht : t ∈ o.looksAt l.toArray := List.mem_append_left _ (List.mem_filterMap.2 ⟨.tmp t, by simpa using hx, rfl⟩)
        have e := hs.same (hr.shape ok (v := fun j => if j < n0 then u j else vm j) (fun j hj => by simp [hj]) i (by omega)) (t := t) fun j oj hj hd => by
         by_cases hji : j = i
         · subst hji; rw [hun']; simp
         · by_cases hjn : j < n
           · have hdp := ok.looks i j o oj t hin hjn ho hj (fun e => hji e.symm) hd ht
             obtain ⟨e, he, hb, hon⟩ := dep_spec ho hdp
             have := ok.down i o hin ho e he hb
             rw [before j hdp]; simp; omega
           · have hjl : j < l.length := (List.getElem?_eq_some_iff.1 hj).1
             rw [getD_both (inv.head.tail j (by omega) (by rw [hll]; exact hjl))]; simp; omega
        simp only [Act.eval, Array.getD_eq_getD_getElem?, e]
       | const => rfl
       | global => rfl
       | func => rfl
      have hrun := hr.run i o ho2 w inv.world
      have hg : Gives P o (A i) w (fun v w' => v = u i ∧ w' = w) := ⟨by unfold gives; rw [hrun]; exact ⟨rfl, rfl⟩⟩
      refine (hg.congr exec).wp fun v w' ⟨hv, hw⟩ => ?_
      subst hw
      refine next v w' (fun _ => hv) (fun h => absurd h (by omega)) inv.world (fun j _ _ _ _ h => h) ?_
      have eS : done n0 (listed.setIfInBounds i true) = done n0 listed := funext fun j => by
       unfold done
       rw [getset]
       by_cases hj : n0 ≤ j
       · have : (j == i) = false := by simp; omega
         simp [this]
       · simp [hj]
      rw [eS]
      exact hDc _ _ _ _ (fun j hj => by simp [upd, show j ≠ i by omega]) hD
    · have exec : execOp a.eval o = execOp (putAll ((l.drop n0).take (n - n0)) n0 vm (A n0)).eval o := execOp_congr o (fun cs b => Region.noSelect_spec ok.sel i o cs b ho') fun x hx => by
       cases x with
       | tmp t =>
        have ht : t ∈ o.looksAt l.toArray := List.mem_append_left _ (List.mem_filterMap.2 ⟨.tmp t, by simpa using hx, rfl⟩)
        by_cases hself : o.dst = some t
        · -- it reads what it writes: told by the check to be nobody else's
          exact (ok.self i o t hin ho hself ht).elim
        · have e := hs.same (shapeA vm) (t := t) fun j oj hj hd => by
           have hji : j ≠ i := fun e => by subst e; rw [ho] at hj; injection hj with hj; subst hj; exact hself hd
           by_cases hjn : j < n
           · rw [before j (ok.looks i j o oj t hin hjn ho hj (fun e => hji e.symm) hd ht)]; simp [hjn]
           · have hjl : j < l.length := (List.getElem?_eq_some_iff.1 hj).1
             rw [getD_both (inv.head.tail j (by omega) (by rw [hll]; exact hjl))]; simp [hjn]
          simp only [Act.eval, Array.getD_eq_getD_getElem?, e]
       | const => rfl
       | global => rfl
       | func => rfl
      refine ((hmid i o (by omega) hin ho (done n0 listed) vm w inv.world (by unfold done; rw [hun']; simp) (fun j h1 h2 hd => (by unfold done; rw [before j hd]; simp [h1])) (fun j h1 h2 hd => hV j h1 h2 (by unfold done at hd; simp at hd; simpa using hd.2)) hD).congr exec).wp fun v w' ⟨h1, h2, h3, h4⟩ => ?_
      refine next v w' (fun h => absurd h (by omega)) (fun _ => h1) h2 h3 ?_
      have eS : done n0 (listed.setIfInBounds i true) = also (done n0 listed) i := funext fun j => by
       unfold done also
       rw [getset]
       by_cases hji : j = i
       · subst hji; simp; omega
       · have hb : (j == i) = false := by simpa using hji
         rw [hb, Bool.or_false, Bool.or_false]
      rw [eS]
      exact h4
end
theorem wp_region_j {P : Program} {l : List Oper} {a : Act} {w : World} {id : Nat} {Q : Exit → Act → World → Prop} (hm : P.follows .mixedOrders = true) (n0 n : Nat) (hB : okB n0 n l = true) (K : World → Prop) (V : Nat → (Nat → Value) → World → Prop) (D : (Nat → Bool) → (Nat → Value) → World → Prop) (hK : K w.drew)
 (hD0 : ∀ vm, D (fun _ => false) vm w.drew) (hDc : ∀ S vm vm' w, (∀ j, n0 ≤ j → vm j = vm' j) → D S vm w → D S vm' w)
 (hVd : ∀ j vm vm' w, n0 ≤ j → j < n → (∀ k, k = j ∨ dep l j k = true → vm k = vm' k) → V j vm w → V j vm' w)
 (h : wpHead P K (fun A => (midAll (fun i o => ∀ (S : Nat → Bool) (vm : Nat → Value) w, K w → S i = false → (∀ j, n0 ≤ j → j < n → depO o j = true → S j = true) → (∀ j, n0 ≤ j → j < n → S j = true → V j vm w) → D S vm w → Gives P o (putAll ((l.drop n0).take (n - n0)) n0 vm A) w (fun v w' => V i (upd vm i v) w' ∧ K w' ∧ (∀ j, n0 ≤ j → j < n → j ≠ i → S j = true → V j vm w → V j vm w') ∧ D (also S i) (upd vm i v) w')) ((l.drop n0).take (n - n0)) n0) ∧
  (∀ (S : Nat → Bool) (vm : Nat → Value) w, K w → (∀ j, n0 ≤ j → j < n → S j = true) → (∀ j, n0 ≤ j → j < n → V j vm w) → D S vm w → wpList P l.toArray Q (l.drop n) (putAll ((l.drop n0).take (n - n0)) n0 vm A) w)) (l.take n0) a) : (Code.region id l.toArray true).wp P Q a w := by
 have ok := Ok.of hB
 obtain ⟨A, u, hr, hA, hmid, htail⟩ := run_of_head _ _ h
 have hlen : (l.take n0).length = n0 := by simp; have := ok.lt; have := ok.le; omega
 rw [hlen] at hmid htail
 have hmid := fun i o (h1 : n0 ≤ i) (h2 : i < n) (ho : l[i]? = some o) => (by
  have := midAll_at _ _ hmid (i - n0) o (by rw [List.getElem?_take, if_pos (by omega), List.getElem?_drop, show n0 + (i - n0) = i by omega]; exact ho)
  rw [show n0 + (i - n0) = i by omega] at this
  exact fun S vm w hK hi hS hV hD => this S vm w hK hi (fun j h1 h2 hd => hS j h1 h2 (by unfold dep; rw [ho]; exact hd)) hV hD : ∀ (S : Nat → Bool) (vm : Nat → Value) w, K w → S i = false → (∀ j, n0 ≤ j → j < n → dep l i j = true → S j = true) → (∀ j, n0 ≤ j → j < n → S j = true → V j vm w) → D S vm w → Gives P o (putAll ((l.drop n0).take (n - n0)) n0 vm (A n0)) w (fun v w' => V i (upd vm i v) w' ∧ K w' ∧ (∀ j, n0 ≤ j → j < n → j ≠ i → S j = true → V j vm w → V j vm w') ∧ D (also S i) (upd vm i v) w'))
 refine wp_region_any hm ?_
 have hinv : Inv l n0 n u V D K (A 0) (Array.replicate l.toArray.size false) a w.drew := by
  refine ⟨⟨by simp, fun j oj _ hl => (by rw [getD_replicate_false] at hl; cases hl), fun t _ ht => getD_in (by simpa using ht) (getD_replicate_false _ _)⟩, ⟨fun _ => undef, ?_, fun j _ _ hl => (by rw [getD_replicate_false] at hl; cases hl), ?_⟩, hK⟩
  · rw [hA]
    exact Rx.Shape.start.congr fun j o _ => by rw [getD_replicate_false]
  · have e : done n0 (Array.replicate l.toArray.size false) = fun _ => false := funext fun j => by unfold done; rw [getD_replicate_false]; simp
    rw [e]
    exact hD0 _
 have := all_ (Q := Q) hr ok hDc hVd hmid htail n _ _ _ hinv (unl_none n _ fun i _ => getD_replicate_false _ _)
 rw [show n + (l.length - n) = l.toArray.size by have := ok.lt; simp; omega] at this
 exact this
end Rj
namespace Go.Proofs.YtbdlpbnfcnhajaaGreat
open Go.RowKit
theorem st_bytes : ∃ i, Tryz.prog.info? 40 = some i ∧ i.zero = some (.agg Im.zero) ∧ i.size = 76 ∧ i.bytes ≤ 100000 := by
 have h3 : (Tryz.prog.info? 40).all (fun i => decide (i.bytes ≤ 100000)) = true := by kernel_rfl
 obtain ⟨i, h, hz, hs⟩ := st_parts
 rw [h] at h3
 exact ⟨i, h, hz, hs, of_decide_eq_true h3⟩
theorem st_one_cell (q : Rg.St) : ∀ u ∈ q.cells, u.oneCell' = true := by
 have h := im_one q.g (.slice q.A q.g.shots.length q.c) q.r rfl
 intro u hu
 exact (Array.all_eq_true_iff_forall_mem.1 h) u (Array.mem_toList_iff.1 hu)
theorem st_cells_one (L : List Rg.St) : ∀ u ∈ L.flatMap Rg.St.cells, u.oneCell' = true := fun u hu => by
 obtain ⟨q, _, h⟩ := List.mem_flatMap.1 hu
 exact st_one_cell q u h
theorem exec_nilCheckR {o : Oper} {a : Act} {w : World} {x : Operand} {ad : Addr} (ho : o.op = .nilCheck x) (hx : a.eval x = .pointer (some ad)) : (execOp a.eval o).run Tryz.prog w = .ok (.value (.pointer (some ad))) w := by
 unfold execOp
 simp only [ho, hx]
 go_simp
theorem exec_loadR {o : Oper} {a : Act} {w : World} {x : Operand} {B : Nat} {v : Value} (ho : o.op = .load 42 x) (hx : a.eval x = .pointer (some ⟨B, 0, none⟩)) (hc : w.cell? ⟨B, 0, none⟩ = some v) : (execOp a.eval o).run Tryz.prog w = .ok (.value v) w := by
 unfold execOp
 simp only [ho, hx]
 go_simp
structure FsD (L : List Rg.St) (k : Nat) (q : Rg.St) (base : Nat) (S : Nat → Bool) (vm : Nat → Value) (w : World) : Prop where
 a0 : S 1 = true → S 6 = false → w.ownsRow base 40 76 (vm 1) 0 []
 a4 : S 6 = true → S 9 = false → w.ownsRow base 40 76 (vm 6) k (L.flatMap Rg.St.cells)
 a6 : S 8 = true → S 9 = false → ∃ X : Nat, vm 8 = .slice (some ⟨X, 0, none⟩) 1 1 ∧ Box w X 40 (q.arr) ∧ (S 1 = true → S 6 = false → (vm 1).ownBlock ≠ some X) ∧ (S 6 = true → (vm 6).ownBlock ≠ some X)
 a7 : S 9 = true → w.ownsRow base 40 76 (vm 9) (k + 1) ((L ++ [q]).flatMap Rg.St.cells)
 a8 : S 9 = true → S 6 = true
section
variable {L : List Rg.St} {k : Nat} {q : Rg.St} {base : Nat} {S : Nat → Bool} {vm vm' : Nat → Value} {w w' : World}
theorem FsD.start : FsD L k q base (fun _ => false) vm w := ⟨fun h => (by cases h), fun h => (by cases h), fun h => (by cases h), fun h => (by cases h), fun h => (by cases h)⟩
theorem FsD.congr (h : FsD L k q base S vm w) (he : ∀ j, 0 ≤ j → vm j = vm' j) : FsD L k q base S vm' w := by
 have : vm = vm' := funext fun j => he j (Nat.zero_le _)
 rw [← this]; exact h
theorem FsD.skip (h : FsD L k q base S vm w) (i : Nat) (hi : i = 0 ∨ i = 2 ∨ i = 3 ∨ i = 4 ∨ i = 5 ∨ i = 7) (v : Value) : FsD L k q base (Rj.also S i) (Rz.upd vm i v) w := by
 have eS : ∀ j, j = 1 ∨ j = 6 ∨ j = 8 ∨ j = 9 → Rj.also S i j = S j ∧ Rz.upd vm i v j = vm j := fun j hj => by
  have hne : j ≠ i := by omega
  have hb : (j == i) = false := by simpa using hne
  exact ⟨by unfold Rj.also; rw [hb, Bool.or_false], by unfold Rz.upd; rw [if_neg hne]⟩
 obtain ⟨s0, v0⟩ := eS 1 (by omega)
 obtain ⟨s4, v4⟩ := eS 6 (by omega)
 obtain ⟨s6, v6⟩ := eS 8 (by omega)
 obtain ⟨s7, v7⟩ := eS 9 (by omega)
 refine ⟨?_, ?_, ?_, ?_, ?_⟩
 · rw [s0, s4, v0]; exact h.a0
 · rw [s4, s7, v4]; exact h.a4
 · rw [s6, s7, s0, s4, v6, v0, v4]; exact h.a6
 · rw [s7, v7]; exact h.a7
 · rw [s7, s4]; exact h.a8
end
theorem exec_st_one {o : Oper} {a : Act} {W : World} {x : Operand} (q : Rg.St) (ho : o.op = .buildSlice 42 1 #[(0, x)]) (hx : a.eval x = .agg q.arr) : (execOp a.eval o).run Tryz.prog W = .ok (.value (.slice (some ⟨W.heap.size, 0, none⟩) 1 1)) (W.alloc (.cells q.arr 40)) := by
 unfold execOp
 simp only [ho, List.map_toArray, List.map_cons, List.map_nil, hx, Sem.run_bind]
 unfold Rg.St.arr
 simp only [st_one, Result.andThen_ok, Sem.run_pure]
theorem exec_load_st {o : Oper} {a : Act} {W : World} {x : Operand} {B : Nat} (q : Rg.St) (ho : o.op = .load 40 x) (hx : a.eval x = .pointer (some ⟨B, 0, none⟩)) (hB : Box W B 40 q.arr) : (execOp a.eval o).run Tryz.prog W = .ok (.value (.agg q.arr)) W :=
 exec_load_blk ho hx hB Tryz.underlying40 rfl (by rw [q.size]; exact state_info)
-- PUSH
structure AllSt (LP : RingP) (w : World) (Br : Nat) (M : List Fd.S) (L : List Rg.St) (AO : Option Addr) (cO bs : Nat) (q : Rg.St) (G : Nat → Prop) (X : World) : Prop where
 hold : P15 LP w Br M G X
 row : X.ownsRow w.heap.size 40 76 (.slice AO L.length cO) L.length (L.flatMap Rg.St.cells)
 rowG : ∀ g, (Value.slice AO L.length cO).ownBlock = some g → G g ∧ g ≠ bs
 rowD : ∀ g, (Value.slice AO L.length cO).ownBlock = some g → ∀ x ∈ L, x.g.shots.length ≠ 0 → ∀ ad, x.A = some ad → ad.block ≠ g
 sh : ∀ x ∈ L, Lies X X.heap.size 6 x.A x.g.shots.length (Gm.shotCells x.g.shots) ∧ (x.g.shots.length ≠ 0 → ∀ ad, x.A = some ad → G ad.block)
 st : Box X bs 40 q.arr
 stG : G bs
 ne : 0 < L.length
 qs : Lies X X.heap.size 6 q.A q.g.shots.length (Gm.shotCells q.g.shots) ∧ (q.g.shots.length ≠ 0 → ∀ ad, q.A = some ad → G ad.block)
section
variable {LP : RingP} (C : ObjC LP) {w : World} {Br : Nat} {M M' : List Fd.S} {L : List Rg.St} {AO : Option Addr} {cO bs : Nat} {q : Rg.St} {G G' : Nat → Prop} {X X' : World}
theorem own_kept {base n size : Nat} {e : TypeId} {v : Value} {xs : List Value} {W W' : World} (h : W.ownsRow base e size v n xs) (hk : ∀ g, v.ownBlock = some g → W'.heap[g]? = W.heap[g]?) : W'.ownsRow base e size v n xs := by
 obtain ⟨h1, ⟨e1, h0⟩ | ⟨g, cap, cur, e1, hb, hg, hc⟩⟩ := h
 · exact ⟨h1, .inl ⟨e1, h0⟩⟩
 · exact ⟨h1, .inr ⟨g, cap, cur, e1, hb, (hk g (by rw [e1]; rfl)).trans hg, hc⟩⟩
theorem lies_kept {W W' : World} {A : Option Addr} {n size : Nat} {xs : List Value} (h : Lies W W.heap.size size A n xs) (hs : W.heap.size ≤ W'.heap.size) (hk : n ≠ 0 → ∀ ad, A = some ad → W'.heap[ad.block]? = W.heap[ad.block]?) : Lies W' W'.heap.size size A n xs :=
 ⟨h.len, fun hn => by obtain ⟨ad, e, hb⟩ := h.start hn; exact ⟨ad, e, Nat.lt_of_lt_of_le hb hs⟩, fun ad e hn j u hu => by
  rw [World.cell?_of_block (w := W) (by rw [add_block]; exact hk hn ad e)]
  exact h.cell ad e hn j u hu⟩
theorem AllSt.kept (h : AllSt LP w Br M L AO cO bs q G X) (hh : P15 LP w Br M' G' X') (hs : X.heap.size ≤ X'.heap.size) (hG : ∀ j, G j → G' j) (hk : ∀ j, G j → X'.heap[j]? = X.heap[j]?) : AllSt LP w Br M' L AO cO bs q G' X' :=
 ⟨hh, own_kept h.row fun g e => hk g (h.rowG g e).1, fun g e => ⟨hG g (h.rowG g e).1, (h.rowG g e).2⟩, h.rowD, fun x hx => ⟨lies_kept (h.sh x hx).1 hs fun h0 ad e => hk _ ((h.sh x hx).2 h0 ad e), fun h0 ad e => hG _ ((h.sh x hx).2 h0 ad e)⟩, ⟨(hk bs h.stG).trans h.st.is⟩, hG bs h.stG, h.ne, lies_kept h.qs.1 hs fun h0 ad e => hk _ (h.qs.2 h0 ad e), fun h0 ad e => hG _ (h.qs.2 h0 ad e)⟩
theorem AllSt.says (h : AllSt LP w Br M L AO cO bs q G X) (hh : P15 LP w Br M' G X') (hk : KeptO G X X') (hs : X.heap.size ≤ X'.heap.size) : AllSt LP w Br M' L AO cO bs q G X' := h.kept hh hs (fun _ h => h) hk
include C
theorem AllSt.call (h : AllSt LP w Br M L AO cO bs q G X) (hb : Below X.heap.size X X') : AllSt LP w Br M L AO cO bs q (fun j => G j ∨ (X.heap.size ≤ j ∧ j < X'.heap.size)) X' :=
 h.kept (HoldO.more C h.hold hb) hb.size (fun _ h => .inl h) fun j hj => hb.block j (h.hold.lt hj).2
theorem AllSt.store (h : AllSt LP w Br M L AO cO bs q G X) {x : Rg.St} (hx : Lies X X.heap.size 6 x.A x.g.shots.length (Gm.shotCells x.g.shots)) (hxG : x.g.shots.length ≠ 0 → ∀ ad, x.A = some ad → G ad.block) : AllSt LP w Br M L AO cO bs x G (X.setRow bs x.arr) := by
 have ho : Only bs X (X.setRow bs x.arr) := ⟨rfl, rfl, rfl, by rw [setRow_size]; exact Nat.le_refl _, fun k _ hne => setRow_other X bs k _ hne⟩
 have hrow : ∀ {A : Option Addr} {l : List Gm.Shot}, Lies X X.heap.size 6 A l.length (Gm.shotCells l) → Lies (X.setRow bs x.arr) (X.setRow bs x.arr).heap.size 6 A l.length (Gm.shotCells l) := fun hl => by
  obtain ⟨g, r, A, c⟩ := q
  exact hl.state_row rfl (show Box X bs 40 (Im.cells g (.slice A g.shots.length c) r) from h.st) _
 refine ⟨h.hold.only C h.stG ho, own_kept h.row fun g e => setRow_other X bs g _ (h.rowG g e).2, h.rowG, h.rowD, fun y hy => ⟨hrow (h.sh y hy).1, (h.sh y hy).2⟩, h.st.row _, h.stG, h.ne, hrow hx, hxG⟩
end
structure PRow (g : Nat) (L : List Rg.St) (X : World) : Prop where
 few : L.length ≤ 9
 row : ∃ cur : Array Value, Box X g 40 cur ∧ cur.size = 684 ∧ cur.toList.take (L.length * 76) = L.flatMap Rg.St.cells
structure PrgR (b : Nat) (F : Nat → Prop) (B : Nat) (M : List Fd.S) (X : World) : Prop where
 box : ∃ g L, M = L.map Rg.St.s ∧ Box X B 89 #[.slice (some ⟨g, 0, none⟩) L.length 9] ∧ PRow g L X ∧ F g ∧ ∀ q ∈ L, Lies X X.heap.size 6 q.A q.g.shots.length (Gm.shotCells q.g.shots) ∧ (q.g.shots.length ≠ 0 → ∀ ad, q.A = some ad → F ad.block ∧ ad.block ≠ g ∧ ad.block ≠ B)
 own : F B
 up : ∀ k, F k → b ≤ k ∧ k < X.heap.size
section
variable {g : Nat} {L : List Rg.St} {X X' : World}
theorem PRow.lt (h : PRow g L X) : g < X.heap.size := by obtain ⟨cur, hB, _⟩ := h.row; exact hB.lt
theorem PRow.kept (h : PRow g L X) (hk : X'.heap[g]? = X.heap[g]?) : PRow g L X' := by
 obtain ⟨cur, hB, h1, h2⟩ := h.row
 exact ⟨h.few, cur, ⟨hk.trans hB.is⟩, h1, h2⟩
theorem PRow.lies (h : PRow g L X) : Lies X X.heap.size 76 (some ⟨g, 0, none⟩) L.length (L.flatMap Rg.St.cells) := by
 obtain ⟨cur, hB, h1, h2⟩ := h.row
 refine ⟨flat_len (cells := Rg.St.cells) (c := 76) Rg.St.len L, fun _ => ⟨_, rfl, hB.lt⟩, fun ad e _ j u hj => ?_⟩
 injection e with e
 subst e
 rw [Addr.add_lit, Nat.zero_add, hB.cell j]
 rw [← h2, List.getElem?_take] at hj
 split at hj
 · rw [← Array.getElem?_toList]; exact hj
 · cases hj
end
theorem PrgR.obj : ObjC PrgR := by
 refine ⟨fun h => h.up, fun {b F B m X G X'} h hK hd => ?_⟩
 obtain ⟨g, L, e, hB, hR, hg, hs⟩ := h.box
 have hk : ∀ j, F j → X'.heap[j]? = X.heap[j]? := fun j hj => hK.block j (h.up j hj).2 (hd j hj)
 exact ⟨⟨g, L, e, ⟨(hk B h.own).trans hB.is⟩, hR.kept (hk g hg), hg, fun q hq => ⟨lies_kept (hs q hq).1 hK.size fun h0 ad e => hk _ ((hs q hq).2 h0 ad e).1, (hs q hq).2⟩⟩, h.own, fun k hk => ⟨(h.up k hk).1, Nat.lt_of_lt_of_le (h.up k hk).2 hK.size⟩⟩
theorem im_shots {w : World} {B : Nat} {g : Gm.G} {s : Value} {r : Ros.R} (h : Box w B 40 (Im.cells g s r)) (s' : Value) : Box (w.setCell ⟨B, 58, none⟩ s') B 40 (Im.cells g s' r) := by
 have := h.put 58 s'
 rwa [Im.cells_shots] at this
theorem im_at58 (g : Gm.G) (s : Value) (r : Ros.R) : (Im.cells g s r)[58]? = some s := by
 rw [Im.cells_g g s r 58 (by decide)]
 exact Gm.cells_58 g s
theorem rgown_any (q : Rg.St) (hn : q.g.shots.length ≤ 60) (X : World) (hL : Lies X X.heap.size 6 q.A q.g.shots.length (Gm.shotCells q.g.shots)) :
 Calls Tryz.prog 44 #[.agg q.arr] X fun e X' => ∃ A' c', e = .returned (.agg (Rg.St.arr ⟨q.g, q.r, A', c'⟩)) ∧ X'.ownsRow X.heap.size 72 6 (.slice A' q.g.shots.length c') q.g.shots.length (Gm.shotCells q.g.shots) ∧ Below X.heap.size X X' := by
 obtain ⟨g, r, A, c⟩ := q
 dsimp only at hn hL ⊢
 obtain ⟨X2, hX2⟩ : ∃ X2, X2 = (X.alloc (.cells (Im.cells g (.slice A g.shots.length c) r) 40)).alloc (.cells Im.zero 40) := ⟨_, rfl⟩
 have b1 : Box X2 X.heap.size 40 (Im.cells g (.slice A g.shots.length c) r) := by rw [hX2]; exact (Box.made _ _ _).alloc _
 have b2 : Box X2 (X.heap.size + 1) 40 Im.zero := by rw [hX2]; exact Box.made_at _ _ _ (by simp)
 have hb0 : Below X.heap.size X X2 := by rw [hX2]; exact two_below' X _ _
 have hs2 : X2.heap.size = X.heap.size + 2 := by rw [hX2]; simp
 have c1 := qh (clone_any g.shots A g.shots.length c X2 rfl hn ((hL.below hb0).wider hb0.size))
 have k58 : X2.cell? ⟨X.heap.size, 58, none⟩ = some (.slice A g.shots.length c) := (b1.cell 58).trans (im_at58 _ _ _)
 have HX := qh hX2
 have HB := qh hb0
 have B1 := qh b1
 have B2 := qh b2
 have HS := qh hs2
 unfold Rg.St.arr
 dsimp only
 clear hL b1 b2 hb0 hX2 hs2
 generalize hnn : g.shots.length = n at *
 go_enter Tryz.func44, Tryz.ntmps44
 go_upto_region 1 with (with_reducible refine alloc_state rfl rfl ?_)
 rw [← HX.out]
 go_wp2_with (first
  | (go_at_call 69; ((with_reducible refine ((c1).out).mono ?_); rintro e w1 ⟨A', c', rfl, ho, hb⟩; have D1 := B1.out.below hb (by have := HS.out; omega); have D2 := B2.out.below hb (by have := HS.out; omega); have k1 : w1.cell? ⟨X.heap.size, 58, none⟩ = some (.slice A n c) := (D1.cell 58).trans (im_at58 _ _ _); have f1 := D1.free 58; have O1 := qh ho; have HB1 := qh (HB.out.trans (hb.mono HB.out.size)); have F1 := qh (im_shots D1 (.slice A' n c')); have ne1 : X.heap.size + 1 ≠ X.heap.size := (by omega); have F2 := qh (D2.far (p := ⟨X.heap.size, 58, none⟩) ne1 (.slice A' n c')); have nO := qh (D1.unowned ho (by decide)); have nO2 := qh (D2.unowned ho (by decide)); clear D1 D2 ho hb ne1))
  | ((with_reducible refine im_load_state rfl rfl ?_); apply LoadIm.mk rfl; (focus (with_reducible exact F1.out)); dsimp only)
  | ((with_reducible refine im_store_state rfl rfl ?_); apply StoreS.mk rfl rfl; (focus (with_reducible exact F2.out)); (focus exact Im.zero_size); (focus rfl)))
 refine bodyPost_ret (v := .agg (Im.cells g (.slice A' n c') r)) ?_ ?_ ?_
 · exact results_cell_row rfl _ _ _ _ (Im.cells g (.slice A' n c') r) (0, 0) _ rfl (Box.row F2.out _).is Tryz.underlying40 rfl (by rw [Im.cells_size]; exact state_info)
 · rfl
 · refine ⟨A', c', rfl, ?_, ?_⟩
   · have h := own_setRow (ownsRow_setCell_other (a := ⟨X.heap.size, 58, none⟩) O1.out nO.out (.slice A' n c')) nO2.out (Im.cells g (.slice A' n c') r)
     exact own_rebase h (by have := HS.out; omega)
   · exact Below.setRow' (HB1.out.setCell (p := ⟨X.heap.size, 58, none⟩) (by simp) _) (by omega) _
end Go.Proofs.YtbdlpbnfcnhajaaGreat