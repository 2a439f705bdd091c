/-
Several texts in one: Ds Iu Te Hv Sb Hx Rm Tf Tg.
-/
import Derived.Test.YtbdlpbnfcnhajaaGreatRq10
set_option maxRecDepth 100000
set_option maxHeartbeats 8000000
set_option linter.unusedVariables false
set_option linter.unusedSimpArgs false
namespace Go.Proofs.YtbdlpbnfcnhajaaGreat
open Go.RowKit
theorem qiV (s : ByteArray) (k : Nat) (h : k < s.size) : s.data.toList.take (k + 1) = s.data.toList.take k ++ [s[k]] := by
 rw [List.take_succ_eq_append_getElem (by simpa using h)]; rfl
theorem qjF (h c : Int) (wh : 0 <= h /\ h <= 18446744073709551615) (wc : 0 <= c /\ c <= 255) : IntKind.u64.wrap (bits .xor .u64 h c * 1099511628211) = Dn.mix h c := by
 rw [u64_xor h c wh.1 (Int.lt_of_le_of_lt wh.2 (by decide)) wc.1 (Int.lt_of_le_of_lt wc.2 (by decide)), qdK]; rfl
theorem qkx (s : ByteArray) (w : World) (hs : s.size <= maxLen) :
 Calls Tryz.prog 57 #[.string s] w fun e w' => e = .returned (.int .u64 (Dn.seed s.data.toList)) /\ w = w' := by
 unfold maxLen at hs
 go_enter Tryz.func57, Tryz.ntmps57
 go_wp2
 go_loop [3, 4] (fun n i => ∃ k : Nat, k <= s.size /\ i = .int .i64 k /\ n = .int .u64 (Dn.seed (s.data.toList.take k))) (fun _ i => s.size - (intOf i).toNat)
 case atStart => exact ⟨0, Nat.zero_le _, rfl, rfl⟩
 case round =>
  obtain ⟨k, hk, rfl, rfl⟩ := hrel
  by_cases hlt : k < s.size
  · have hb := Dn.qgl (s.data.toList.take k)
    have hc : (s[k].toNat : Int) <= 255 := by have := s[k].toNat_lt; omega
    have hm := qjF (Dn.seed (s.data.toList.take k)) (s[k].toNat : Int) hb (by omega)
    have HS : Hid (Dn.seed (s.data.toList.take (k + 1)) = Dn.mix (Dn.seed (s.data.toList.take k)) (s[k].toNat : Int)) := qh (by rw [qiV s k hlt, Dn.qgk])
    go_wp2
    all_goals
     go_round
     case rel => exact ⟨k + 1, by omega, by go_num, by rw [HS.out]⟩
     case measure => simp [intOf]; omega
  · go_wp2
    go_ret
    exact ⟨qbB (by rw [List.take_of_length_le (by simp; omega)]), rfl⟩
theorem qmY (s : ByteArray) (cap k : Nat) (hk : k < s.size) : (bytesRow s cap)[k]? = some (.int .u8 (s[k].toNat : Int)) := by
 unfold bytesRow
 rw [Array.getElem?_append_left (by simpa using hk), Array.getElem?_map]
 rw [Array.getElem?_eq_getElem (by simpa using hk)]
 rfl
theorem qm8 (d b p : Int) (w : World) :
 Calls Tryz.prog 92 #[.int .u64 d, .int .u64 b, .int .u64 p] w fun e w' =>
  e = .returned (.func (.func 119) #[] #[.pointer (some ⟨w.heap.size, 0, none⟩), .pointer (some ⟨w.heap.size + 1, 0, none⟩), .pointer (some ⟨w.heap.size + 2, 0, none⟩)]) /\
  w' = ((w.alloc (.cells #[.int .u64 d] 27)).alloc (.cells #[.int .u64 b] 27)).alloc (.cells #[.int .u64 p] 27) := by
 have hmf : ∀ (fn : Fn) (first cap : Array Value) (w : World), (Instr.makeFunc fn first cap).run Tryz.prog w = .ok (.func fn first cap) w := fun _ _ _ _ => rfl
 go_enter Tryz.func92, Tryz.ntmps92
 go_wp2
 go_ret
 exact ⟨rfl, rfl⟩
theorem qm9 (d c : Int) (wd : 0 <= d /\ d <= 18446744073709551615) (wc : 0 <= c /\ c <= 255) (B : Nat) (w : World)
 (h0 : w.heap[B]? = some (.cells #[.int .u64 d] 27 (0, 0))) (h1 : w.heap[B + 1]? = some (.cells #[.int .u64 1099511628211] 27 (0, 0))) (h2 : w.heap[B + 2]? = some (.cells #[.int .u64 0] 27 (0, 0))) :
 Calls Tryz.prog 119 #[.int .u64 c, .pointer (some ⟨B, 0, none⟩), .pointer (some ⟨B + 1, 0, none⟩), .pointer (some ⟨B + 2, 0, none⟩)] w fun e w' =>
  e = .returned (.int .u64 (Dn.mix d c)) /\ w' = w.setCell ⟨B, 0, none⟩ (.int .u64 (Dn.mix d c)) := by
 have c0 := cell_of_one h0
 have c1 := cell_of_one h1
 have c2 := cell_of_one h2
 have f0 := free_of_one h0
 have hm := qjF d c wd wc
 have hb := Dn.qpv d c
 clear h0 h1 h2
 go_enter Tryz.func119, Tryz.ntmps119
 go_wp2
 go_ret
 exact ⟨rfl, rfl⟩
def qeB (s : ByteArray) (B : Nat) (w wr : World) (H : Int) : Prop :=
 wr.heap[B]? = some (.cells #[.int .u64 H] 27 (0, 0)) /\ wr.heap[B + 1]? = some (.cells #[.int .u64 1099511628211] 27 (0, 0)) /\ wr.heap[B + 2]? = some (.cells #[.int .u64 0] 27 (0, 0)) /\
 (∀ k (h : k < s.size), wr.cell? ⟨B + 1 + 1 + 1, k, none⟩ = some (.int .u8 (s[k].toNat : Int))) /\ Below B w wr
theorem qeB.on {s : ByteArray} {B : Nat} {w wr : World} {H : Int} (h : qeB s B w wr H) (H' : Int) : qeB s B w (wr.setCell ⟨B, 0, none⟩ (.int .u64 H')) H' := by
 obtain ⟨h0, h1, h2, hc, hb⟩ := h
 refine ⟨one_setCell h0, (Below.heap_setCell _ _ _ _ (by simp)).trans h1, (Below.heap_setCell _ _ _ _ (by simp)).trans h2, fun k hk => ?_, hb.setCell (Nat.le_refl _) _⟩
 rw [World.cell?_of_block (w := wr) (Below.heap_setCell _ _ _ _ (show B + 1 + 1 + 1 ≠ B by omega))]
 exact hc k hk
theorem at_new (w : World) (o : Obj) (i : Nat) (h : i = w.heap.size) : (w.alloc o).heap[i]? = some o := by subst h; exact heap_alloc_new w o
theorem qeB.start (s : ByteArray) (w : World) (cap : Nat) (q : Nat × Nat) (H : Int) :
 qeB s w.heap.size w (((((w.alloc (.cells #[.int .u64 H] 27)).alloc (.cells #[.int .u64 1099511628211] 27)).alloc (.cells #[.int .u64 0] 27)).alloc (.cells (bytesRow s cap) 5 q)).drew) H := by
 refine ⟨?_, ?_, ?_, fun k hk => ?_, ((((((Below.refl _ _).alloc (Nat.le_refl _) _).alloc (by simp) _).alloc (by simp; omega) _).alloc (by simp; omega) _)).drew⟩
 · exact (heap_alloc_old _ _ (by simp; omega)).trans ((heap_alloc_old _ _ (by simp; omega)).trans ((heap_alloc_old _ _ (by simp)).trans (at_new _ _ _ rfl)))
 · exact (heap_alloc_old _ _ (by simp)).trans ((heap_alloc_old _ _ (by simp)).trans (at_new _ _ _ (by simp)))
 · exact (heap_alloc_old _ _ (by simp)).trans (at_new _ _ _ (by simp))
 · have h3 := at_new (((w.alloc (.cells #[.int .u64 H] 27)).alloc (.cells #[.int .u64 1099511628211] 27)).alloc (.cells #[.int .u64 0] 27)) (.cells (bytesRow s cap) 5 q) (w.heap.size + 1 + 1 + 1) (by simp)
   have h4 := qmY s cap k hk
   generalize (((w.alloc (.cells #[.int .u64 H] 27)).alloc (.cells #[.int .u64 1099511628211] 27)).alloc (.cells #[.int .u64 0] 27)).alloc (.cells (bytesRow s cap) 5 q) = W at *
   show W.cell? _ = _
   simp [World.cell?, h3, h4]
theorem qoO (s : ByteArray) (w : World) (hs : s.size <= maxLen) :
 Calls Tryz.prog 70 #[.string s] w fun e w' => e = .returned (.int .u64 (Dn.seed s.data.toList)) /\ Below w.heap.size w w' := by
 unfold maxLen at hs
 have kc := fun (w : World) => run_bytes_of_string (P := Tryz.prog) w 9 111 5 s Tryz.underlying9 Tryz.underlying111 Tryz.underlying5
 have hst := fun cap q => qh (qeB.start s w cap q 14695981039346656037)
 go_enter Tryz.func70, Tryz.ntmps70
 go_wp2_with (go_at_call 92; refine (qm8 _ _ _ _).mono ?_; rintro e w' ⟨rfl, rfl⟩)
 go_loopw [4, 11] (fun h i wr => ∃ k : Nat, k <= s.size /\ i = .int .i64 k /\ h = .int .u64 (Dn.seed (s.data.toList.take k)) /\ qeB s w.heap.size w wr (Dn.seed (s.data.toList.take k))) (fun _ i _ => s.size - (intOf i).toNat)
 case atStart => exact ⟨0, Nat.zero_le _, rfl, rfl, (hst _ _).out⟩
 case round =>
  obtain ⟨k, hk, rfl, rfl, hS⟩ := hrel
  by_cases hlt : k < s.size
  · obtain ⟨c, hc⟩ : ∃ c : Int, c = (s[k].toNat : Int) := ⟨_, rfl⟩
    have hcell := hS.2.2.2.1 k hlt
    rw [<- hc] at hcell
    have wc : 0 <= c /\ c <= 255 := by have := s[k].toNat_lt; omega
    have HS : Hid (Dn.seed (s.data.toList.take (k + 1)) = Dn.mix (Dn.seed (s.data.toList.take k)) c) := qh (by rw [qiV s k hlt, Dn.qgk, hc])
    have ct := qh (qm9 (Dn.seed (s.data.toList.take k)) c (Dn.qgl _) wc w.heap.size wr hS.1 hS.2.1 hS.2.2.1)
    have HN := qh (hS.on (Dn.mix (Dn.seed (s.data.toList.take k)) c))
    clear hS hc kc hst
    go_wp2_with (go_at_call 119; refine (ct.out).mono ?_; rintro e w' ⟨rfl, rfl⟩)
    all_goals
     go_roundw
     case rel => exact ⟨k + 1, by omega, by go_num, by rw [HS.out], by rw [HS.out]; exact HN.out⟩
     case measure => simp [intOf]; omega
  · have hb := hS.2.2.2.2
    clear hS kc hst
    go_wp2
    go_ret
    exact ⟨qbB (by rw [List.take_of_length_le (by simp; omega)]), hb⟩
open Go.RowKit Go.Shelf
def Im.r (k : Nat) : Ros.R := ⟨0, fun i => if i < k then -1 else 0, fun _ => 0⟩
theorem Im.qqE (k : Nat) (hk : k < 8) : (Ros.cells (Im.r k)).setIfInBounds (1 + k * 2) (.int .i64 (-1)) = Ros.cells (Im.r (k + 1)) := by
 rw [Ros.qfo _ k hk]
 refine Ros.qlb rfl (fun i hi => ?_) (fun i hi => rfl)
 show Ros.upd (Im.r k).peer k (-1) i = if i < k + 1 then -1 else 0
 unfold Ros.upd Im.r
 by_cases e : i = k
 · subst e; simp
 · rw [if_neg e]
   dsimp only
   by_cases h : i < k
   · rw [if_pos h, if_pos (by omega)]
   · rw [if_neg h, if_neg (by omega)]
theorem Im.r_8 : Ros.cells (Im.r 8) = Ros.cells Ros.new := rfl
theorem qmo (w : World) : Calls Tryz.prog 33 #[] w fun e w' => e = .returned (.agg (Ros.cells Ros.new)) /\ Below w.heap.size w w' := by
 have P0 := qh ((Box.made w 38 (Ros.cells qai)).alloc (.cells (Ros.cells qai) 38))
 have P1 := qh (Box.qan (n := w.heap.size + 1) (w.alloc (.cells (Ros.cells qai) 38)) 38 (Ros.cells (Im.r 0)) (by simp))
 have K1 := qh (((Below.refl w.heap.size w).alloc (Nat.le_refl _) (.cells (Ros.cells qai) 38)).alloc (by simp) (.cells (Ros.cells qai) 38))
 go_enter Tryz.func33, Tryz.ntmps33
 go_wp2_with (with_reducible refine qaq rfl rfl ?_)
 go_loopw [2] (fun i wr => ∃ k : Nat, k <= 8 /\ i = .int .i64 k /\ Box wr (w.heap.size + 1) 38 (Ros.cells (Im.r k)) /\ Box wr w.heap.size 38 (Ros.cells qai) /\ Below w.heap.size w wr) (fun i _ => 8 - (intOf i).toNat)
 case atStart => exact ⟨0, by omega, rfl, P1.out, P0.out, K1.out⟩
 case round =>
  obtain ⟨k, hk, rfl, hB, hZ, hK⟩ := hrel
  clear P0 P1 K1
  by_cases hlt : k < 8
  · have hk8 : (k : Int) < 8 := by omega
    have c0 := (hB.cell (1 + k * 2)).trans (Ros.qaB (Im.r k) k hlt)
    have f0 := hB.free (1 + k * 2)
    have hp := hB.put (1 + k * 2) (.int .i64 (-1))
    rw [Im.qqE k hlt] at hp
    have HB := qh hp
    have HZ := qh (hZ.far (p := ⟨w.heap.size + 1, 1 + k * 2, none⟩) (show w.heap.size ≠ w.heap.size + 1 by omega) (.int .i64 (-1)))
    have HK := qh (hK.setCell (p := ⟨w.heap.size + 1, 1 + k * 2, none⟩) (Nat.le_succ _) (.int .i64 (-1)))
    clear hB hZ hK hp
    go_wp2
    go_roundw
    case rel => exact ⟨k + 1, by omega, by go_num, HB.out, HZ.out, HK.out⟩
    case measure => simp [intOf]; omega
  · have hk8 : ¬ (k : Int) < 8 := by omega
    obtain rfl : k = 8 := by omega
    rw [Im.r_8] at hB
    have HB := qh hB
    have HZ := qh hZ
    have HK := qh hK
    clear hB hZ hK
    go_wp2_with (first | ((with_reducible refine qak rfl rfl ?_); apply qah.mk rfl; (focus (with_reducible exact HB.out)); (focus (exact qad))) | ((with_reducible refine qav rfl rfl ?_); apply qaz.mk rfl rfl; (focus (with_reducible exact HZ.out)); (focus (exact qad)); (focus rfl); (focus (exact qaK _))))
    refine bodyPost_ret (v := .agg (Ros.cells Ros.new)) ?_ ?_ ?_
    · exact results_cell_row rfl _ _ _ _ (Ros.cells Ros.new) (0, 0) _ rfl (HZ.out.row (Ros.cells Ros.new)).is Tryz.underlying38 rfl qad
    · rfl
    · exact ⟨rfl, Below.setRow' HK.out (Nat.le_refl _) (Ros.cells Ros.new)⟩
theorem qkC (s : ByteArray) (w : World) (hs : s.size <= maxLen) :
 Calls Tryz.prog 32 #[.string s] w fun e w' => e = .returned (.agg (Gm.cells (Gm.new (Dn.seed s.data.toList)) (.slice none 0 0))) /\ Below w.heap.size w w' := by
 have c1 := fun X => qh (qkx s X hs)
 have hr := qh (rfl : Tryz.f32.results = _)
 go_enter Tryz.func32, Tryz.ntmps32
 go_wp2_with (first | (go_at_call 57; ((with_reducible refine ((c1 _).out).mono ?_); rintro e w' ⟨rfl, rfl⟩)) | (refine qbU rfl (t := 33) rfl qjK rfl ?_) | (refine qaM rfl (t := 33) (vs := [(1, .int .u64 (Dn.seed s.data.toList))]) rfl rfl (qjX _) ?_) | (refine qbE rfl (ty := 33) rfl rfl rfl rfl rfl qbb rfl (cells_one _ _ rfl) ?_))
 refine bodyPost_ret (v := .agg (Gm.cells (Gm.new (Dn.seed s.data.toList)) (.slice none 0 0))) ?_ ?_ ?_
 · exact results_cell_row rfl _ _ _ _ (Gm.cells (Gm.new (Dn.seed s.data.toList)) (.slice none 0 0)) (0, 0) _ rfl (Box.made _ _ _).is Tryz.underlying33 rfl qbb
 · rfl
 · exact ⟨rfl, qac _ _⟩
theorem qfu (g : Gm.G) (s : Value) (r : Ros.R) : Tryz.prog.built 40 [(0, .agg (Gm.cells g s)), (1, .agg (Ros.cells r))] = some (Im.cells g s r) := by kernel_rfl
theorem qiY (s : ByteArray) (w : World) (hs : s.size <= maxLen) :
 Calls Tryz.prog 8 #[.string s] w fun e w' => e = .returned (.agg (Im.cells (Gm.new (Dn.seed s.data.toList)) (.slice none 0 0) Ros.new)) /\ Below w.heap.size w w' := by
 have P1 := qh (Box.made w 40 Im.zero)
 have K1 := qh (qac w (.cells Im.zero 40))
 have c1 := fun X => qh (qkC s X hs)
 have c2 := fun X => qh (qmo X)
 go_enter Tryz.func8, Tryz.ntmps8
 go_wp2_with (first | (with_reducible refine qau rfl rfl ?_) | (go_at_call 32; ((with_reducible refine ((c1 _).out).mono ?_); rintro e w2 ⟨rfl, hb⟩; have P2 := qh (P1.out.below hb P1.out.lt); have K2 := qh (K1.out.trans (hb.mono K1.out.size)); clear hb)) | (go_at_call 33; ((with_reducible refine ((c2 _).out).mono ?_); rintro e w3 ⟨rfl, hb⟩; have P3 := qh (P2.out.below hb P2.out.lt); have K3 := qh (K2.out.trans (hb.mono K2.out.size)); clear hb)) | (refine qaM rfl (t := 40) (vs := [(0, .agg (Gm.cells (Gm.new (Dn.seed s.data.toList)) (.slice none 0 0))), (1, .agg (Ros.cells Ros.new))]) rfl rfl (qfu _ _ _) ?_) | ((with_reducible refine qc7 (t := 40) rfl rfl qaw ?_); apply qcf.mk rfl rfl P3.out (qdR _ _ _ rfl) (Im.qag _ _ _) Im.qar))
 refine bodyPost_ret (v := .agg (Im.cells (Gm.new (Dn.seed s.data.toList)) (.slice none 0 0) Ros.new)) ?_ ?_ ?_
 · exact results_cell_row rfl _ _ _ _ (Im.cells (Gm.new (Dn.seed s.data.toList)) (.slice none 0 0) Ros.new) (0, 0) _ rfl (P3.out.row _).is Tryz.underlying40 rfl (by rw [Im.qag]; exact qaw)
 · rfl
 · exact ⟨rfl, Below.setRow' K3.out (Nat.le_refl _) _⟩
attribute [local go_sem] Oper.semAt_some
def qdS (l : List Ros.Sl) : Ros.R := l.foldl (fun r x => { r with peer := Ros.upd r.peer x.1 (-1) }) qai
theorem qjU (l : List Ros.Sl) (x : Ros.Sl) : qdS (l ++ [x]) = { qdS l with peer := Ros.upd (qdS l).peer x.1 (-1) } := by
 unfold qdS; rw [List.foldl_append]; rfl
theorem qk7 : Ros.cells (qdS Ros.all8) = Ros.cells Ros.new := rfl
theorem ql8 (w : World) :
 Calls Tryz.prog 47 #[] w fun e w' => e = .returned (.agg (Ros.cells Ros.new)) /\ Below w.heap.size w w' := by
 refine (callsIn_wide (n := 10)).1 (callsIn_of_wp_marks Tryz.func47 rfl trivial (wpIn_wide.2 ?_) rfl)
 simp only [Tryz.ntmps47, List.size_toArray, List.length_cons, List.length_nil, Nat.reduceAdd, Nat.reduceSub, Array.replicate_succ, Array.replicate_zero, List.push_toArray, List.append_toArray, List.nil_append, List.cons_append]
 go_upto_block 0 with (first | ((with_reducible refine qaq rfl rfl ?_)) | (go_at_call 71; ((with_reducible refine (qgn _ _).mono ?_); rintro e w3 ⟨rfl, rfl⟩)))
 have M0 : Sit (w.heap.size + 1) (w.heap.size + 1 + 1) w (qdS []) (((w.alloc (.cells (Ros.cells qai) 38)).alloc (.cells (Ros.cells qai) 38)).alloc (.cells #[.pointer (some ⟨w.heap.size + 1, 0, none⟩)] 119)) /\ Box (((w.alloc (.cells (Ros.cells qai) 38)).alloc (.cells (Ros.cells qai) 38)).alloc (.cells #[.pointer (some ⟨w.heap.size + 1, 0, none⟩)] 119)) w.heap.size 38 (Ros.cells qai) :=
  ⟨⟨(Box.qan _ _ _ (by simp)).alloc _, Box.qan _ _ _ (by simp), (((Below.refl _ _).alloc (Nat.le_refl _) _).alloc (by simp) _).alloc (by simp <;> omega) _⟩, ((Box.made w _ _).alloc _).alloc _⟩
 generalize hW0 : (((w.alloc (.cells (Ros.cells qai) 38)).alloc _).alloc _) = W0 at M0 ⊢
 have MM0 := qh M0
 have hs0 : qcT (w.heap.size + 1) (w.heap.size + 1 + 1) W0 := M0.1.sit.cell 0
 clear hW0 M0
 refine (wpIn_wide (n := 10)).1 ?_
 refine wpIn_block ?_
 refine' wpIn_rangeFunc_ownF (n := 10) (w := W0) rfl (by omega) (gf := 93) (lb := #[.pointer (some ⟨w.heap.size + 1 + 1, 0, none⟩)]) rfl trivial (enters_of Tryz.func93 (by kernel_rfl) rfl)
  (qdN (w.heap.size + 1) (w.heap.size + 1 + 1) _ W0 hs0) qkf (qkg (n := W0.heap.size)) (Below.refl _ _) (fun _ => rfl)
  (fun pre W => Sit (w.heap.size + 1) (w.heap.size + 1 + 1) w (qdS pre) W /\ Box W w.heap.size 38 (Ros.cells qai))
  (fun c pre W => False)
  (fun pre W W' row h hgr hr => ⟨h.1.turned hgr (fun r e => ⟨Nat.le_trans MM0.out.1.below.size (hr r e).1, (hr r e).2⟩), h.2.turned hgr (fun r e => (hr r e).2)⟩)
  (fun c pre W W' row h hgr hr => h)
  MM0.out _ ?assign ?body ?done ?stop
 case assign =>
  intro l x W K hK
  gi_wp2
  exact hK
 case body =>
  rintro l pre ⟨k, hk⟩ W ⟨hM, hR⟩ hlen
  have hk8 : (k : Int) < 8 := by omega
  have rp := Ros.qaB (qdS pre) k hk
  have rc := hM.ros.cell
  have rf := hM.ros.free
  have HM := qh hM
  have HR := qh hR
  clear hM hR hlen
  gi_wp2
  have hset := HM.out.ros.put (1 + k * 2) (.int .i64 (-1))
  rw [Ros.qfo _ k hk] at hset
  refine ⟨KeepsOthers.setCell _ _ _, fun h => (World.cell?_of_block (heap_setCell_other _ _ _ _ (by show w.heap.size + 1 + 1 ≠ w.heap.size + 1; omega))).trans h, ⟨?_, HM.out.sit.far (by show _ ≠ _; simp) _, HM.out.below.setCell (by simp) _⟩, HR.out.far (by show _ ≠ _; simp) _⟩
  rw [qjU]
  exact hset
 case done =>
  rintro D xs W hD rfl ⟨hM, hR⟩ hK
  have hDw : w.heap.size + 1 + 1 < D := Nat.lt_of_lt_of_le MM0.out.1.sit.lt hD
  have BR := qh (show Box W (w.heap.size + 1) 38 (Ros.cells Ros.new) from qk7 ▸ hM.ros)
  have BZ := qh hR
  have HB := qh (Below.setRow' hM.below (Nat.le_refl _) (Ros.cells Ros.new))
  have hne : D ≠ w.heap.size := by omega
  have HK := qh (show (W.setRow w.heap.size (Ros.cells Ros.new)).heap[D]? = some (.deferred (some [])) from (setRow_other W w.heap.size D _ hne).trans hK)
  clear hM hR hK
  go_wp2_with (first | ((with_reducible refine qak rfl rfl ?_); apply qah.mk rfl; (focus (with_reducible exact BR.out)); (focus (exact qad))) | ((with_reducible refine qav rfl rfl ?_); apply qaz.mk rfl rfl; (focus (with_reducible exact BZ.out)); (focus (exact qad)); (focus rfl); (focus (exact qaK _))))
  refine ⟨by simp, .inl ⟨_, _, rfl, run_takeDeferred HK.out, ?_⟩⟩
  have R6 := (BZ.out.row (Ros.cells Ros.new)).turned (grownBy_putObj' _ D (.deferred none)) (fun r e => by cases e; exact ⟨_, HK.out, rfl⟩)
  refine ⟨.agg (Ros.cells Ros.new), ?_, rfl, Below.turned HB.out (Nat.le_refl _) (grownBy_putObj' _ D (.deferred none)) (fun r e => by cases e; omega)⟩
  exact results_cell_row rfl _ _ _ _ (Ros.cells Ros.new) (0, 0) _ rfl R6.is Tryz.underlying38 rfl qad
 case stop =>
  rintro D c' pre W hD _ hf hK
  exact hf.elim
theorem qi6 (r : Ros.R) (p : Int) (w : World) :
 Calls Tryz.prog 142 #[.agg (Ros.cells r), .int .i64 p] w fun e w' => e = .returned (.int .i64 (Ros.of r p)) /\ Below w.heap.size w w' := by
 have cm := fun X => qh (qfc r X)
 have cp := fun X => qh (qdv p X)
 have B0 := ((Box.made w 38 (Ros.cells r)).alloc (.cells #[.int .i64 p] 3)).alloc (.cells #[.int .i64 0] 3)
 have B1 := (Box.qan (n := w.heap.size + 1) (w.alloc (.cells (Ros.cells r) 38)) 3 #[.int .i64 p] (by simp)).alloc (.cells #[.int .i64 0] 3)
 have B2 := Box.qan (n := w.heap.size + 1 + 1) ((w.alloc (.cells (Ros.cells r) 38)).alloc (.cells #[.int .i64 p] 3)) 3 #[.int .i64 0] (by simp)
 have b0 := (((Below.refl w.heap.size w).alloc (Nat.le_refl _) (.cells (Ros.cells r) 38)).alloc (by simp) (.cells #[.int .i64 p] 3)).alloc (by simp <;> omega) (.cells #[.int .i64 0] 3)
 have P0 := qh B0
 have P1 := qh B1
 have P2 := qh B2
 have PB := qh b0
 clear B0 B1 B2 b0
 have hof : Hid (Ros.of r p = if Ros.Ok r /\ 0 <= p /\ p < 12 then Ros.qeG r p Ros.all8 else -1) := qh rfl
 by_cases hok : Ros.Ok r
 · have hmay : Ros.may r = true := decide_eq_true hok
   rw [hmay] at cm
   by_cases hp : 0 <= p /\ p < 12
   · rw [decide_eq_true hp] at cp
     have HIF := qh (hof.out.trans (if_pos ⟨hok, hp⟩))
     clear hof hok hmay
     refine (callsIn_wide (n := 10)).1 (callsIn_of_wp_marks Tryz.func142 rfl trivial (wpIn_wide.2 ?_) rfl)
     simp only [Tryz.ntmps142, List.size_toArray, List.length_cons, List.length_nil, Nat.reduceAdd, Nat.reduceSub, Array.replicate_succ, Array.replicate_zero, List.push_toArray, List.append_toArray, List.nil_append, List.cons_append]
     go_upto_block 0 with (first | ((with_reducible refine qak rfl rfl ?_); apply qah.mk rfl; (focus (with_reducible exact P0.out)); (focus (exact qad))) | (go_at_call 111; ((with_reducible refine ((cm _).out).mono ?_); rintro e w1 ⟨rfl, hb1⟩; have Q0 := qh (P0.out.below hb1 (by have := P0.out.lt; simp at this ⊢ <;> omega)); have Q1 := qh (P1.out.below hb1 (by have := P1.out.lt; simp at this ⊢ <;> omega)); have Q2 := qh (P2.out.below hb1 (by have := P2.out.lt; simp at this ⊢ <;> omega)); have QB := qh (PB.out.trans (hb1.mono PB.out.size)); have q1 := Q1.out.cell; have q2 := Q2.out.cell; have f2 := Q2.out.free; clear hb1)) | (go_at_call 141; ((with_reducible refine ((cp _).out).mono ?_); rintro e w2 ⟨rfl, rfl⟩)) | (go_at_call 71; ((with_reducible refine (qgn _ _).mono ?_); rintro e w3 ⟨rfl, rfl⟩)))
     have M0 : Sit w.heap.size w1.heap.size w r (w1.alloc (.cells #[.pointer (some ⟨w.heap.size, 0, none⟩)] 119)) /\ Box (w1.alloc (.cells #[.pointer (some ⟨w.heap.size, 0, none⟩)] 119)) (w.heap.size + 1) 3 #[.int .i64 p] /\ Box (w1.alloc (.cells #[.pointer (some ⟨w.heap.size, 0, none⟩)] 119)) (w.heap.size + 1 + 1) 3 #[.int .i64 0] :=
      ⟨⟨Q0.out.alloc _, Box.made _ _ _, QB.out.alloc QB.out.size _⟩, Q1.out.alloc _, Q2.out.alloc _⟩
     have bgw : w.heap.size + 1 + 1 < w1.heap.size := Q2.out.lt
     generalize hW0 : (w1.alloc (.cells #[.pointer (some ⟨w.heap.size, 0, none⟩)] 119)) = W0 at M0 ⊢
     generalize w1.heap.size = Bg at *
     have MM0 := qh M0
     have hs0 : qcT w.heap.size Bg W0 := M0.1.sit.cell 0
     have HP := qh hp
     clear hW0 M0 P0 P1 P2 PB Q0 Q1 Q2 QB q1 q2 f2 cm cp hp
     refine (wpIn_wide (n := 10)).1 ?_
     refine wpIn_block ?_
     refine' wpIn_rangeFunc_ownF (n := 10) (w := W0) rfl (by omega) (gf := 93) (lb := #[.pointer (some ⟨Bg, 0, none⟩)]) rfl trivial (enters_of Tryz.func93 (by kernel_rfl) rfl)
      (qdN (w.heap.size) (Bg) _ W0 hs0) qkf (qkg (n := W0.heap.size)) (Below.refl _ _) (fun _ => rfl)
      (fun pre W => (Sit w.heap.size Bg w r W /\ Box W (w.heap.size + 1) 3 #[.int .i64 p] /\ Box W (w.heap.size + 1 + 1) 3 #[.int .i64 0]) /\ ∀ y ∈ pre, r.peer y.1 ≠ p)
      (fun c pre W => c = .ret /\ ∃ (pre' : List Ros.Sl) (x : Ros.Sl), pre = pre' ++ [x] /\ (∀ y ∈ pre', r.peer y.1 ≠ p) /\ r.peer x.1 = p /\ Box W (w.heap.size + 1 + 1) 3 #[.int .i64 x.1] /\ Below w.heap.size w W)
      (fun pre W W' row h hgr hr => ⟨⟨h.1.1.turned hgr (fun r e => ⟨Nat.le_trans MM0.out.1.below.size (hr r e).1, (hr r e).2⟩), h.1.2.1.turned hgr (fun r e => (hr r e).2), h.1.2.2.turned hgr (fun r e => (hr r e).2)⟩, h.2⟩)
      (fun c pre W W' row h hgr hr => (by
       obtain ⟨h0, pre', x, h1, h2, h3, h4, h5⟩ := h
       exact ⟨h0, pre', x, h1, h2, h3, h4.turned hgr (fun r e => (hr r e).2), Below.turned h5 (Nat.le_refl _) hgr (fun r e => Nat.le_trans MM0.out.1.below.size (hr r e).1)⟩))
      ⟨MM0.out, by simp⟩ _ ?assign ?body ?done ?stop
     case assign =>
      intro l x W K hK
      gi_wp2
      exact hK
     case body =>
      rintro l pre ⟨k, hk⟩ V ⟨⟨hM, hP, hR⟩, hpre⟩ hlen
      dsimp only
      have hk8 : (k : Int) < 8 := by omega
      have y0 := Ros.qaB r k hk
      have z0 : ∀ q : Ext V.heap.size V, q.w.cell? ⟨w.heap.size, 1 + k * 2, none⟩ = some (.int .i64 (r.peer k)) := fun q => q.cell hM.ros.lt ((hM.ros.cell _).trans y0)
      have z1 : ∀ q : Ext V.heap.size V, q.w.cell? ⟨w.heap.size + 1, 0, none⟩ = some (.int .i64 p) := fun q => q.cell hP.lt (hP.cell 0)
      obtain ⟨pk, hpk⟩ : ∃ pk, r.peer k = pk := ⟨_, rfl⟩
      rw [hpk] at z0
      have HM := qh hM
      have HPP := qh hP
      have HR := qh hR
      have HPRE := qh hpre
      have HPK := qh hpk
      clear hM hP hR hpre hpk y0 hlen
      refine wpIn_block ?_
      refine wpIn_seq_k ?_
      intro K hK
      by_cases he : pk = p
      · subst he
        have hb : (pk == pk) = true := by simp
        clear HPP
        refine Rt.qdk V.heap.size V (by kernel_rfl) (by kernel_rfl) (by kernel_rfl) (by rintro ⟨_, _, h⟩; exact h) (Below.refl _ _) ?_
        repeat (go_big_quiet_step (fail))
        refine wpQuiet_nil ?_
        intro _ hw'
        obtain ⟨q, hw''⟩ := hw'
        subst hw''
        refine hK _ _ ?_
        have r2 := (HR.out.below q.h HR.out.lt)
        have q2 := r2.cell
        have f2 := r2.free
        have R2 := qh r2
        clear r2
        gi_wp2
        first
         | exact ⟨(qbi q.h).trans (KeepsOthers.setCell _ _ _), rfl, pre, ⟨k, hk⟩, rfl, HPRE.out, HPK.out, R2.out.put 0 _, (HM.out.call q.h).below.setCell (by simp <;> omega) _⟩
         | exact ⟨(qbi q.h).trans (KeepsOthers.setCell _ _ _), rfl, pre, k, ⟨hk, rfl⟩, fun a hb hm => HPRE.out ⟨a, hb⟩ hm, HPK.out, R2.out.put 0 _, (HM.out.call q.h).below.setCell (by simp <;> omega) _⟩
      · have hb : (pk == p) = false := by simpa using he
        refine Rt.qdk V.heap.size V (by kernel_rfl) (by kernel_rfl) (by kernel_rfl) (by rintro ⟨_, _, h⟩; exact h) (Below.refl _ _) ?_
        repeat (go_big_quiet_step (fail))
        refine wpQuiet_nil ?_
        intro _ hw'
        obtain ⟨q, hw''⟩ := hw'
        subst hw''
        refine hK _ _ ?_
        have hnew : ∀ y ∈ pre ++ [(⟨k, hk⟩ : Ros.Sl)], r.peer y.1 ≠ p := fun y hy => by
         rcases List.mem_append.1 hy with h | h
         · exact HPRE.out y h
         · simp only [List.mem_singleton] at h
           subst h
           show r.peer k ≠ p
           rw [HPK.out]; exact he
        have HN := qh hnew
        clear hnew
        gi_wp2
        refine ⟨qbi q.h, fun hf => hf.below q.h, ⟨HM.out.call q.h, HPP.out.below q.h HPP.out.lt, HR.out.below q.h HR.out.lt⟩, ?_⟩
        first
         | exact HN.out
         | exact fun a hb hm => HN.out ⟨a, hb⟩ hm
     case done =>
      rintro D xs V hD rfl ⟨⟨hM, hP, hR⟩, hn⟩ hK
      have hres := hR.put 0 (.int .i64 (-1))
      have hK3 := qes (KeepsOthers.setCell V ⟨w.heap.size + 1 + 1, 0, none⟩ (.int .i64 (-1))) hK
      have hDw : w.heap.size <= D := Nat.le_trans MM0.out.1.below.size hD
      have hT := hres.turned (grownBy_putObj' _ D (.deferred none)) (fun r e => by cases e; exact ⟨_, hK3, rfl⟩)
      have hT2 := qh (Below.turned (hM.below.setCell (p := ⟨w.heap.size + 1 + 1, 0, none⟩) (by simp <;> omega) (.int .i64 (-1))) (Nat.le_refl _) (grownBy_putObj' _ D (.deferred none)) (fun r e => by cases e; exact hDw))
      have hno : Hid (Ros.of r p = -1) := qh (HIF.out.trans (Ros.qgq hn))
      have HK3 := qh hK3
      have hc5 : ((V.setCell ⟨w.heap.size + 1 + 1, 0, none⟩ (.int .i64 (-1))).putObj D (.deferred none)).cell? ⟨w.heap.size + 1 + 1, 0, none⟩ = some (.int .i64 (-1)) := hT.cell 0
      have u4 := hR.cell
      have v4 := hR.free
      clear hM hres hK3 hT hK hn hP hR
      go_wp2
      refine ⟨by simp, .inl ⟨_, _, rfl, run_takeDeferred HK3.out, ?_⟩⟩
      refine ⟨.int .i64 (-1), ?_, by rw [hno.out], hT2.out⟩
      simp [results, Tryz.f142, go_sem, hc5]
     case stop =>
      rintro D c' pre V hD ⟨rest, hpre⟩ ⟨rfl, pre', x, rfl, h2, h3, h4, h5⟩ hK
      have hyes : Hid (Ros.of r p = x.1) := qh (HIF.out.trans (by rw [hpre, List.append_assoc]; exact Ros.qfw h2 h3))
      have hDw : w.heap.size <= D := Nat.le_trans MM0.out.1.below.size hD
      have hT := h4.turned (grownBy_putObj' _ D (.deferred none)) (fun r e => by cases e; exact ⟨_, hK, rfl⟩)
      have hT2 := qh (Below.turned h5 (Nat.le_refl _) (grownBy_putObj' _ D (.deferred none)) (fun r e => by cases e; exact hDw))
      have hc5 : (V.putObj D (.deferred none)).cell? ⟨w.heap.size + 1 + 1, 0, none⟩ = some (.int .i64 x.1) := hT.cell 0
      have HK3 := qh hK
      clear h2 h3 h4 h5 hK hpre hT
      refine wpIn_ret ?_
      refine ⟨by simp, .inl ⟨_, _, rfl, run_takeDeferred HK3.out, ?_⟩⟩
      refine ⟨.int .i64 x.1, ?_, by rw [hyes.out], hT2.out⟩
      simp [results, Tryz.f142, go_sem, hc5]
   · rw [decide_eq_false hp] at cp
     have HIF := qh (hof.out.trans (if_neg fun h => hp h.2))
     clear hof hok hmay hp
     go_enter Tryz.func142, Tryz.ntmps142
     go_wp2_with (first | ((with_reducible refine qak rfl rfl ?_); apply qah.mk rfl; (focus (with_reducible exact P0.out)); (focus (exact qad))) | (go_at_call 111; ((with_reducible refine ((cm _).out).mono ?_); rintro e w1 ⟨rfl, hb1⟩; have Q0 := qh (P0.out.below hb1 (by have := P0.out.lt; simp at this ⊢ <;> omega)); have Q1 := qh (P1.out.below hb1 (by have := P1.out.lt; simp at this ⊢ <;> omega)); have Q2 := qh (P2.out.below hb1 (by have := P2.out.lt; simp at this ⊢ <;> omega)); have QB := qh (PB.out.trans (hb1.mono PB.out.size)); have q1 := Q1.out.cell; have q2 := Q2.out.cell; have f2 := Q2.out.free; clear hb1)) | (go_at_call 141; ((with_reducible refine ((cp _).out).mono ?_); rintro e w2 ⟨rfl, rfl⟩)))
     have hT : (w1.setCell ⟨w.heap.size + 1 + 1, 0, none⟩ (.int .i64 (-1))).cell? ⟨w.heap.size + 1 + 1, 0, none⟩ = some (.int .i64 (-1)) := (Q2.out.put 0 (.int .i64 (-1))).cell 0
     refine bodyPost_ret (v := .int .i64 (-1)) (by simp [results, Tryz.f142, go_sem, hT]) rfl ?_
     exact ⟨by rw [HIF.out], QB.out.setCell (by simp <;> omega) _⟩
 · have hmay : Ros.may r = false := decide_eq_false hok
   rw [hmay] at cm
   have HIF := qh (hof.out.trans (if_neg fun h => hok h.1))
   clear hof hok hmay
   go_enter Tryz.func142, Tryz.ntmps142
   go_wp2_with (first | ((with_reducible refine qak rfl rfl ?_); apply qah.mk rfl; (focus (with_reducible exact P0.out)); (focus (exact qad))) | (go_at_call 111; ((with_reducible refine ((cm _).out).mono ?_); rintro e w1 ⟨rfl, hb1⟩; have Q0 := qh (P0.out.below hb1 (by have := P0.out.lt; simp at this ⊢ <;> omega)); have Q1 := qh (P1.out.below hb1 (by have := P1.out.lt; simp at this ⊢ <;> omega)); have Q2 := qh (P2.out.below hb1 (by have := P2.out.lt; simp at this ⊢ <;> omega)); have QB := qh (PB.out.trans (hb1.mono PB.out.size)); have q1 := Q1.out.cell; have q2 := Q2.out.cell; have f2 := Q2.out.free; clear hb1)) | (go_at_call 141; ((with_reducible refine ((cp _).out).mono ?_); rintro e w2 ⟨rfl, rfl⟩)))
   have hT : (w1.setCell ⟨w.heap.size + 1 + 1, 0, none⟩ (.int .i64 (-1))).cell? ⟨w.heap.size + 1 + 1, 0, none⟩ = some (.int .i64 (-1)) := (Q2.out.put 0 (.int .i64 (-1))).cell 0
   refine bodyPost_ret (v := .int .i64 (-1)) (by simp [results, Tryz.f142, go_sem, hT]) rfl ?_
   exact ⟨by rw [HIF.out], QB.out.setCell (by simp <;> omega) _⟩
end Go.Proofs.YtbdlpbnfcnhajaaGreat
namespace Go.Proofs.YtbdlpbnfcnhajaaGreat
open Go.RowKit
theorem qd0 : (Tryz.prog.info? 30).map (·.size) = some 56 := by kernel_rfl
theorem qdZ (g : Gm.G) (v : Value) : ∀ j u, (Gm.qax g.ship)[j]? = some u -> (Gm.cells g v)[2 + j]? = some u := fun j u hu => by
 have hj : j < 56 := by have := (List.getElem?_eq_some_iff.1 hu).1; rwa [Gm.qcA] at this
 rw [Gm.qey _ _ _ hj]; exact hu
theorem qpV (s : ByteArray) (w : World) (hs : s.size <= maxLen) :
 Calls Tryz.prog 46 #[.string s] w fun e w' => e = .returned (.agg (Gm.cells (Gm.new (Dn.seed s.data.toList)) (.slice none 0 0))) /\ Below w.heap.size w w' := by
 have c1 := fun X => qh (qoO s X hs)
 have hb0 := qh (qac w (.cells (Gm.cells qbn (.slice none 0 0)) 33))
 have B0 := qh (Box.made w 33 (Gm.cells qbn (.slice none 0 0)))
 go_enter Tryz.func46, Tryz.ntmps46
 go_wp2_with (first | (go_at_call 70; ((with_reducible refine ((c1 _).out).mono ?_); rintro e w1 ⟨rfl, hb1⟩; have B1 := qh (B0.out.below hb1 B0.out.lt); have HB1 := qh (hb0.out.trans (hb1.mono hb0.out.size)); clear hb1)) | (refine qaF rfl rfl ?_) | (refine qaM rfl (t := 33) (vs := [(1, .int .u64 (Dn.seed s.data.toList))]) rfl rfl (qjX _) ?_) | ((with_reducible refine qbe rfl rfl ?_); apply qbc.mk rfl rfl rfl; exact B1.out))
 refine bodyPost_ret (v := .agg (Gm.cells (Gm.new (Dn.seed s.data.toList)) (.slice none 0 0))) ?_ ?_ ?_
 · exact results_cell_row rfl _ _ _ _ (Gm.cells (Gm.new (Dn.seed s.data.toList)) (.slice none 0 0)) (0, 0) _ rfl (Box.row B1.out _).is Tryz.underlying33 rfl qbb
 · rfl
 · exact ⟨rfl, Below.setRow' HB1.out (Nat.le_refl _) _⟩
open Go.RowKit Go.Shelf
def SOut (g' : Gm.G) (r' : Ros.R) (code : Int) (w : World) (e : Ending) (w' : World) : Prop :=
 ∃ A c, e = .returned (.tuple #[.agg (Im.cells g' (.slice A g'.qaa.length c) r'), .int .i64 code]) /\ Lies w' w'.heap.size 6 A g'.qaa.length (Gm.qab g'.qaa) /\ Below w.heap.size w w'
def SOne (g' : Gm.G) (r' : Ros.R) (w : World) (e : Ending) (w' : World) : Prop :=
 ∃ A c, e = .returned (.agg (Im.cells g' (.slice A g'.qaa.length c) r')) /\ Lies w' w'.heap.size 6 A g'.qaa.length (Gm.qab g'.qaa) /\ Below w.heap.size w w'
def qlO (code : Int) (w : World) (e : Ending) (w' : World) : Prop := e = .panicked [{ v := .iface 121 (.int .i64 code), recovered := false }] /\ Below w.heap.size w w'
theorem qkL (w : World) : Calls Tryz.prog 77 #[.int .i64 0] w fun e w' => e = .returned (.tuple #[]) /\ Below w.heap.size w w' := by
 go_enter Tryz.func77, Tryz.ntmps77
 go_wp2
 go_end0
 exact ⟨rfl, Below.refl _ _⟩
theorem qgH (w : World) : Calls Tryz.prog 77 #[.int .i64 1] w (qlO 1 w) := by
 go_enter Tryz.func77, Tryz.ntmps77
 go_wp2
 exact ⟨rfl, rfl, Below.refl _ _⟩
theorem qjE (w : World) : Calls Tryz.prog 73 #[.bool true] w fun e w' => e = .returned (.tuple #[]) /\ Below w.heap.size w w' := by
 go_enter Tryz.func73, Tryz.ntmps73
 go_wp2
 go_end0
 exact ⟨rfl, Below.refl _ _⟩
theorem qkK (w : World) : Calls Tryz.prog 73 #[.bool false] w (qlO 1 w) := by
 have c1 := fun X => qh (qgH X)
 go_enter Tryz.func73, Tryz.ntmps73
 go_wp2_with (first | (go_at_call 77; ((with_reducible refine ((c1 _).out).mono ?_); rintro e w1 ⟨rfl, hb⟩)))
 exact ⟨rfl, rfl, hb⟩
theorem qiE (s : ByteArray) (w : World) (hs : s.size <= maxLen) :
 Calls Tryz.prog 25 #[.string s] w fun e w' => e = .returned (.agg (Im.cells (Gm.new (Dn.seed s.data.toList)) (.slice none 0 0) Ros.new)) /\ Below w.heap.size w w' := by
 have P1 := qh (Box.made w 40 Im.zero)
 have K1 := qh (qac w (.cells Im.zero 40))
 have c1 := fun X => qh (qpV s X hs)
 have c2 := fun X => qh (ql8 X)
 go_enter Tryz.func25, Tryz.ntmps25
 go_wp2_with (first | (with_reducible refine qau rfl rfl ?_) | (go_at_call 46; ((with_reducible refine ((c1 _).out).mono ?_); rintro e w2 ⟨rfl, hb⟩; have P2 := qh (P1.out.below hb P1.out.lt); have K2 := qh (K1.out.trans (hb.mono K1.out.size)); clear hb)) | (go_at_call 47; ((with_reducible refine ((c2 _).out).mono ?_); rintro e w3 ⟨rfl, hb⟩; have P3 := qh (P2.out.below hb P2.out.lt); have K3 := qh (K2.out.trans (hb.mono K2.out.size)); clear hb)) | (refine qaM rfl (t := 40) (vs := [(0, .agg (Gm.cells (Gm.new (Dn.seed s.data.toList)) (.slice none 0 0))), (1, .agg (Ros.cells Ros.new))]) rfl rfl (qfu _ _ _) ?_) | ((with_reducible refine qc7 (t := 40) rfl rfl qaw ?_); apply qcf.mk rfl rfl P3.out (qdR _ _ _ rfl) (Im.qag _ _ _) Im.qar))
 refine bodyPost_ret (v := .agg (Im.cells (Gm.new (Dn.seed s.data.toList)) (.slice none 0 0) Ros.new)) ?_ ?_ ?_
 · exact results_cell_row rfl _ _ _ _ (Im.cells (Gm.new (Dn.seed s.data.toList)) (.slice none 0 0) Ros.new) (0, 0) _ rfl (P3.out.row _).is Tryz.underlying40 rfl (by rw [Im.qag]; exact qaw)
 · rfl
 · exact ⟨rfl, Below.setRow' K3.out (Nat.le_refl _) _⟩
theorem qcQ (g : Gm.G) (r : Ros.R) (A : Option Addr) (n c : Nat) (w : World) (hty : Gm.ty g) (hn63 : n <= maxLen) (hn : n = g.qaa.length) (hr : Lies w w.heap.size 6 A n (Gm.qab g.qaa)) :
 Calls Tryz.prog 39 #[.agg (Im.cells g (.slice A n c) r)] w fun e w' => (∃ v, e = .returned (.bool v) /\ (v = true ↔ Im.Ok g r)) /\ Below w.heap.size w w' := by
 have P0 := qh (Box.made w 40 (Im.cells g (.slice A n c) r))
 have K0 := qh (qac w (.cells (Im.cells g (.slice A n c) r) 40))
 have hr0 := (hr.below K0.out).wider K0.out.size
 by_cases hok : Im.Ok g r
 · have cp := qh (qpS g r A n c _ hok hty.2.1 hn hr0)
   have HOK := qh hok
   clear hr hn hok hr0 hty
   go_enter Tryz.func39, Tryz.ntmps39
   go_wp2_with (first | ((with_reducible refine qam rfl rfl ?_); apply qay.mk rfl; (focus (with_reducible exact P0.out)); dsimp only) | (go_at_call 66; ((with_reducible refine ((cp).out).mono ?_); rintro e w1 ⟨A1, c1, rfl, _, hb⟩; have K1 := qh (K0.out.trans (hb.mono K0.out.size)); clear hb)))
   go_ret
   exact ⟨⟨true, rfl, fun _ => HOK.out, fun _ => rfl⟩, K1.out⟩
 · have cp := qh (qqp g r A n c _ hok hty hn hn63 hr0)
   have HOK := qh hok
   clear hr hn hok hr0 hty
   go_enter Tryz.func39, Tryz.ntmps39
   go_wp2_with (first | ((with_reducible refine qam rfl rfl ?_); apply qay.mk rfl; (focus (with_reducible exact P0.out)); dsimp only) | (go_at_call 66; ((with_reducible refine ((cp).out).mono ?_); rintro e w1 ⟨rfl, hb⟩; have K1 := qh (K0.out.trans (hb.mono K0.out.size)); clear hb)))
   go_ret
   exact ⟨⟨false, rfl, ⟨fun h => (by cases h), fun h => absurd h HOK.out⟩⟩, K1.out⟩
theorem qmj (g : Gm.G) (A : Option Addr) (n c i : Nat) (w : World) (hg : Gm.ok g) (hn : n = g.qaa.length) (hr : Lies w w.heap.size 6 A n (Gm.qab g.qaa)) (hi : i < 8) (ho : (g.ship i).on = true) (h0 : g.qaa = []) :
 Calls Tryz.prog 98 #[.agg (Gm.cells g (.slice A n c)), .int .i64 i] w (Out { g with ship := Gm.upd g.ship i Gm.Ship.none } 0 w) := by
 have b1 : Box (((w.alloc (.cells (Gm.cells g (.slice A n c)) 33)).alloc (.cells #[.int .i64 i] 3)).alloc (.cells (Gm.cells qbn (.slice none 0 0)) 33)) w.heap.size 33 (Gm.cells g (.slice A n c)) := ((Box.made _ _ _).alloc _).alloc _
 have b2 : Box (((w.alloc (.cells (Gm.cells g (.slice A n c)) 33)).alloc (.cells #[.int .i64 i] 3)).alloc (.cells (Gm.cells qbn (.slice none 0 0)) 33)) (w.heap.size + 1 + 1) 33 (Gm.cells qbn (.slice none 0 0)) := Box.qan _ _ _ (by simp)
 have b3 : Box (((w.alloc (.cells (Gm.cells g (.slice A n c)) 33)).alloc (.cells #[.int .i64 i] 3)).alloc (.cells (Gm.cells qbn (.slice none 0 0)) 33)) (w.heap.size + 1) 3 #[.int .i64 i] := (Box.qan _ _ _ (by simp)).alloc _
 have hb0 := (qal w (.cells (Gm.cells g (.slice A n c)) 33) (.cells #[.int .i64 i] 3)).alloc (by simp <;> omega) (.cells (Gm.cells qbn (.slice none 0 0)) 33)
 have co := qh (qir g A n c _ hn (by have := hg.2.2.1; omega) ((hr.below hb0).wider hb0.size))
 have cm := fun X (hX : Below w.heap.size w X) => qh (qgJ g A n c X hg hn ((hr.below hX).wider hX.size))
 have cs := fun X => qh (qdm i (by omega) X)
 rw [decide_eq_true (show (0 : Int) <= i by omega), decide_eq_true (show (i : Int) < 8 by omega), Bool.and_self] at cs
 have q0 : (Gm.cells g (.slice A n c))[2 + i * 7]? = some (.bool true) := (Gm.qae g _ i 0 hi (by omega)).trans (by show some (Value.bool (g.ship i).on) = _; rw [ho])
 have hi8 : (i : Int) < 8 := by omega
 obtain ⟨t, ht⟩ : ∃ t, t = g.ship i := ⟨_, rfl⟩
 have r0 : ∀ s, (Gm.cells g s)[2 + i * 7]? = some (.bool t.on) := fun s => (Gm.qae g s i 0 hi (by omega)).trans (by rw [ht]; rfl)
 have r1 : ∀ s, (Gm.cells g s)[2 + i * 7 + 1]? = some (.int .i32 t.x) := fun s => (Gm.qae g s i 1 hi (by omega)).trans (by rw [ht]; rfl)
 have r2 : ∀ s, (Gm.cells g s)[2 + i * 7 + 2]? = some (.int .i32 t.y) := fun s => (Gm.qae g s i 2 hi (by omega)).trans (by rw [ht]; rfl)
 have r3 : ∀ s, (Gm.cells g s)[2 + i * 7 + 3]? = some (.int .i32 t.vx) := fun s => (Gm.qae g s i 3 hi (by omega)).trans (by rw [ht]; rfl)
 have r4 : ∀ s, (Gm.cells g s)[2 + i * 7 + 4]? = some (.int .i32 t.vy) := fun s => (Gm.qae g s i 4 hi (by omega)).trans (by rw [ht]; rfl)
 have r5 : ∀ s, (Gm.cells g s)[2 + i * 7 + 5]? = some (.int .i64 t.cool) := fun s => (Gm.qae g s i 5 hi (by omega)).trans (by rw [ht]; rfl)
 have r6 : ∀ s, (Gm.cells g s)[2 + i * 7 + 6]? = some (.int .i64 t.score) := fun s => (Gm.qae g s i 6 hi (by omega)).trans (by rw [ht]; rfl)
 have hN := qh hn
 have H0 := qh h0
 have HB := qh hb0
 have B1 := qh b1
 have B2 := qh b2
 have B3 := qh b3
 clear hr hn b1 b2 b3 hb0 ho hg ht h0
 go_enter Tryz.func98, Tryz.ntmps98
 go_upto_region 5 with (first | (refine qaF rfl rfl ?_) | ((with_reducible refine qaG rfl rfl ?_); apply qaL.mk rfl; (with_reducible exact B1.out)) | ((with_reducible refine qaG rfl rfl ?_); apply qaL.mk rfl; (with_reducible exact D1.out)) | ((with_reducible refine qaG rfl rfl ?_); apply qaL.mk rfl; exact F1.out) | (go_at_call 99; ((with_reducible refine (co.out).mono ?_); rintro e w1 ⟨A1, c1, rfl, ho1, hb1⟩; have HB1 := qh ((HB.out.trans (hb1.mono HB.out.size)).alloc (by have := hb1.size; simp at this; omega) (.cells (Gm.cells g (.slice A1 n c1)) 33)); have O1 := qh ((qbQ (base' := w.heap.size) ho1 (by simp; omega)).alloc (.cells (Gm.cells g (.slice A1 n c1)) 33)); have D1 := qh ((B1.out.below hb1 (by simp <;> omega)).alloc (.cells (Gm.cells g (.slice A1 n c1)) 33)); have D2 := qh ((B2.out.below hb1 (by simp <;> omega)).alloc (.cells (Gm.cells g (.slice A1 n c1)) 33)); have D3 := qh ((B3.out.below hb1 (by simp <;> omega)).alloc (.cells (Gm.cells g (.slice A1 n c1)) 33)); have s1 : w.heap.size + 1 + 1 < w1.heap.size := (by have := hb1.size; simp at this; omega); have ho1H := qh ho1; clear ho1 hb1)) | (refine qaJ rfl rfl rfl rfl rfl rfl ?_) | (go_at_call 100; ((with_reducible refine ((cm _ HB1.out).out).mono ?_); rintro e w2 ⟨rfl, hb2⟩; have HB2 := qh (HB1.out.trans (hb2.mono HB1.out.size)); have O2 := qh (own_below O1.out hb2 (Nat.le_refl _)); have F1 := qh ((Box.made w1 33 (Gm.cells g (.slice A1 n c1))).below hb2 (by simp)); have f1c := F1.out.cell; have f1f := F1.out.free; have H9 := qh ((qf1 (w := w) hN.out (qbQ (base' := w.heap.size) ho1H.out (by simp; omega))).call hb2); have E1 := (D1.out.below hb2 D1.out.lt).cell; have E3' := D3.out.below hb2 D3.out.lt; have E3 := E3'.cell; have E3H := qh E3'; have G2 := qh (D2.out.below hb2 D2.out.lt); clear hb2)) | (go_at_call 125; ((with_reducible refine ((cs _).out).mono ?_); rintro e w' ⟨rfl, rfl⟩)) | ((with_reducible refine qbe rfl rfl ?_); apply qbc.mk rfl rfl rfl; exact G2.out))
 have W5 : Has w.heap.size w1.heap.size { g with ship := Gm.upd g.ship i Gm.Ship.none } (stored w2 w1.heap.size i Gm.Ship.none) := H9.out.stored hi _
 have K5 := (Keep.refl (show w.heap.size <= w1.heap.size by omega) w2).stored (k := i) Gm.Ship.none
 obtain ⟨W, hW⟩ : ∃ W, W = stored w2 w1.heap.size i Gm.Ship.none := ⟨_, rfl⟩
 rw [<- hW] at W5 K5
 simp only [stored, Gm.Ship.none] at hW
 rw [<- hW]
 have ck := qh (qjH { g with ship := Gm.upd g.ship i Gm.Ship.none } w.heap.size w1.heap.size (.func (.func 127) #[] #[.pointer (some ⟨w.heap.size + 1, 0, none⟩)]) W (by omega) W5 H0.out)
 have hmf : ∀ (fn : Fn) (first cap : Array Value) (w : World), (Instr.makeFunc fn first cap).run Tryz.prog w = .ok (.func fn first cap) w := fun _ _ _ _ => rfl
 have ne2 : w.heap.size + 1 + 1 ≠ w1.heap.size := by omega
 have R5 := qh (G2.out.keep K5 ne2 (by decide))
 have KK5 := qh (HB2.out.trans (K5.to HB2.out.size))
 clear hW W5 K5 E1 E3 f1c f1f r0 r1 r2 r3 r4 r5 r6
 go_wp2_with (first | (go_at_call 105; ((with_reducible refine (ck.out).mono ?_); rintro e w4 ⟨rfl, h4, k4⟩; obtain ⟨A4, c4, B4, O4⟩ := h4; have F4 := qh B4; have O4H := qh O4; have R4 := qh (R5.out.keep k4 ne2 (by decide)); have K4 := qh (KK5.out.trans (k4.to KK5.out.size)); clear B4 O4 k4)) | ((with_reducible refine qaG rfl rfl ?_); apply qaL.mk rfl; exact F4.out) | ((with_reducible refine qbe rfl rfl ?_); apply qbc.mk rfl rfl rfl; exact R4.out))
 refine bodyPost_ret (v := .tuple #[.agg (Gm.cells { g with ship := Gm.upd g.ship i Gm.Ship.none } (.slice A4 g.qaa.length c4)), .int .i64 0]) ?_ ?_ ?_
 · exact results_cell_tmp (p := 4) (q := 5) rfl _ _ _ _ (Gm.cells { g with ship := Gm.upd g.ship i Gm.Ship.none } (.slice A4 g.qaa.length c4)) _ rfl (Box.row R4.out _) Tryz.underlying33 rfl qbb
 · rfl
 · exact ⟨A4, c4, rfl, Lies.owned (qbf O4H.out (R4.out.qaO O4H.out (by decide)) _), Below.setRow' K4.out (by omega) _⟩
theorem qaP.draws {b B : Nat} {A : Option Addr} {c : Nat} {g : Gm.G} {w : World} (h : qaP b B A c g w) (n : Nat) : qaP b B A c g (w.drewN n) := ⟨⟨h.game.is⟩, h.own⟩
theorem qaP.qgf {b B c gs i : Nat} {G : Gm.G} {W : World} (h : qaP b B (some ⟨gs, 0, none⟩) c G W) (hi : i < G.qaa.length) (j : Nat) (hj : j < 6) : W.cell? ⟨gs, i * 6 + j, none⟩ = G.qaa[i].cells[j]? := by
 have h1 := h.own
 rw [h1.cellAt (i * 6 + j) (by omega), Gm.qbq _ i j hi hj]
theorem Keep.draws {b B : Nat} {w w' : World} (h : Keep b B w w') (n : Nat) : Keep b B w (w'.drewN n) := ⟨h.os, h.tape, h.output, h.size, h.low, h.block⟩
theorem qkI (G : Gm.G) (b B c gs j Bi : Nat) (i : Int) (w : World) (hbB : b <= B) (hj : j < G.qaa.length) (h : qaP b B (some ⟨gs, 0, none⟩) c G w) (hi : Box w Bi 3 #[.int .i64 i]) :
 Calls Tryz.prog 127 #[.pointer (some ⟨gs, j * 6, none⟩), .pointer (some ⟨Bi, 0, none⟩)] w fun e w' => e = .returned (.bool (decide (G.qaa[j].owner ≠ i))) /\ qaP b B (some ⟨gs, 0, none⟩) c G w' /\ Keep b B w w' /\ Box w' Bi 3 #[.int .i64 i] := by
 have q0 := h.qgf hj 0 (by omega)
 generalize hs : G.qaa[j] = s at q0 ⊢
 obtain ⟨so, sx, sy, svx, svy, sl⟩ := s
 simp only [Gm.Shot.cells, List.getElem?_cons_zero, Nat.add_zero] at q0
 have r0 := hi.cell 0
 simp only [List.getElem?_toArray, List.getElem?_cons_zero] at r0
 have H := qh h
 have HI := qh hi
 clear h hs hi
 go_enter Tryz.func127, Tryz.ntmps127
 by_cases ho : so = i
 · subst ho
   go_upto_region 1 with fail
   go_quiet (fail)
   go_wp2
   go_ret
   exact ⟨by simp, H.out.draws _, (Keep.refl hbB _).draws _, ⟨HI.out.is⟩⟩
 · have hne : (so != i) = true := by simpa using ho
   go_upto_region 1 with fail
   go_quiet (fail)
   go_wp2
   go_ret
   exact ⟨by simp [ho], H.out.draws _, (Keep.refl hbB _).draws _, ⟨HI.out.is⟩⟩
def oth (i : Int) : Gm.Shot -> Bool := fun s => decide (s.owner ≠ i)
theorem qlv (i : Int) (l : List Gm.Shot) (j : Nat) (hj : j < l.length) : (l.take (j + 1)).filter (oth i) = (l.take j).filter (oth i) ++ (if oth i l[j] then [l[j]] else []) := by
 rw [List.take_succ_eq_append_getElem hj, List.filter_append]
 congr 1
 cases h : oth i l[j] <;> simp [h]
theorem qnZ (g : Gm.G) (b B Bi : Nat) (iv : Int) (w : World) (hbB : b <= B) (h : Has b B g w) (hne : g.qaa.length ≠ 0) (hlen : g.qaa.length <= 32) (hi : Box w Bi 3 #[.int .i64 iv]) :
 Calls Tryz.prog 105 #[.pointer (some ⟨B, 0, none⟩), .func (.func 127) #[] #[.pointer (some ⟨Bi, 0, none⟩)]] w fun e w' => e = .returned (.tuple #[]) /\ Has b B { g with qaa := g.qaa.filter (oth iv) } w' /\ Keep b B w w' := by
 obtain ⟨A, c, hB, hO⟩ := h
 have h : qaP b B A c g w := ⟨hB, hO⟩
 obtain ⟨gs, rfl, hbg, _⟩ := h.len hne
 obtain ⟨m, hm⟩ : ∃ m, m = g.qaa.length := ⟨_, rfl⟩
 have start : qj4 b B c gs 0 w g ⟨g.dice, g.ship, []⟩ g.qaa (.slice (some ⟨gs, 0, none⟩) 0 c) w :=
  ⟨rfl, Nat.le_refl _, rfl, fun _ _ => rfl, rfl, h, Keep.refl hbB w⟩
 have START := qh start
 have HI0 := qh hi
 have hcc := hB.cell
 have e58 := Gm.qaZ g (.slice (some ⟨gs, 0, none⟩) g.qaa.length c)
 rw [<- hm] at hcc e58 hne hlen
 obtain ⟨i0, hi0, hz0, hz1, hz2⟩ := info_parts qdi
 have hI := qh hi0
 have hS := qh hz1
 have HM := qh hm
 clear hB hO h start hi0 hz0 hz1 hz2 hm hi
 go_enter Tryz.func105, Tryz.ntmps105
 go_wp2
 go_loopg [4, 16] m (fun gg s4 i wr => ∃ (j : Nat) (L : List Gm.Shot), j <= m /\ gg = m - j /\ i = .int .i64 j /\ qj4 b B c gs j w g ⟨g.dice, g.ship, (g.qaa.take j).filter (oth iv)⟩ L s4 wr /\ Box wr Bi 3 #[.int .i64 iv])
 case atStart => exact ⟨0, g.qaa, by omega, rfl, rfl, START.out, HI0.out⟩
 case round =>
  obtain ⟨j, L, hj, rfl, rfl, hR, hQ⟩ := hrel
  clear hcc e58
  have hLm : L.length = m := by rw [hR.len, HM.out]
  have r58 := Gm.qaZ { g with qaa := L } (.slice (some ⟨gs, 0, none⟩) L.length c)
  have rc := hR.has.game.cell
  have rf := hR.has.game.free
  dsimp only at rc
  rw [hLm] at rc r58
  by_cases hlt : j < m
  · have hjm : (j : Int) < m := by omega
    have hjl : j < g.qaa.length := by rw [<- HM.out]; exact hlt
    have hsn := qh (qlv iv g.qaa j hjl)
    have hLj : L[j]'(by rw [hLm]; exact hlt) = g.qaa[j] := by
     have := hR.rest j (Nat.le_refl _)
     rw [List.getElem?_eq_getElem (by rw [hLm]; exact hlt), List.getElem?_eq_getElem hjl] at this
     injection this
    generalize hst : (g.qaa.take j).filter (oth iv) = left at *
    obtain ⟨s, hs⟩ : ∃ s, s = g.qaa[j] := ⟨_, rfl⟩
    rw [<- hs] at hLj
    have cst := qkI { g with qaa := L } b B c gs j Bi iv wr hbB (by rw [hLm]; exact hlt) hR.has hQ
    dsimp only at cst
    rw [hLj] at cst
    have hget := qh (show ∀ h : j < L.length, L[j]'h = s from fun _ => hLj)
    have hset : Hid (L.set j s = L) := qh (by rw [<- hLj]; exact List.set_getElem_self _)
    have HR := qh hR
    have HQ := qh hQ
    have HSS := qh hs
    have hs4 := hR.left
    have hfew := hR.few
    clear hR hs hLj hQ
    dsimp only at hs4 hfew
    subst hs4
    have hso : Hid (oth iv s = decide (s.owner ≠ iv)) := qh rfl
    by_cases h1 : s.owner = iv
    · rw [decide_eq_false (by simpa using h1)] at cst
      have CST := qh cst
      have HO := qh (show oth iv s = false from hso.out.trans (decide_eq_false (by simpa using h1)))
      clear cst hst h1
      go_wp2_with (go_at_call 127; ((with_reducible refine (CST.out).mono ?_); rintro e w1 ⟨rfl, h1', k1', b1'⟩; have H1 := qh h1'; have K1 := qh k1'; have Q1 := qh b1'; clear h1' k1' b1'))
      go_roundg (m - (j + 1))
      case measure => omega
      case rel =>
       refine ⟨j + 1, L.set j s, by omega, rfl, by go_num, ?_, Q1.out⟩
       rw [hsn.out, <- HSS.out, HO.out]
       simp only [Bool.false_eq_true, if_false, List.append_nil]
       exact qh4 HR.out rfl s (by rw [hset.out]; exact H1.out) (HR.out.keep.trans K1.out)
    · rw [decide_eq_true (by simpa using h1)] at cst
      have CST := qh cst
      have HO := qh (show oth iv s = true from hso.out.trans (decide_eq_true (by simpa using h1)))
      clear cst hst h1 hso
      obtain ⟨fo, fx, fy, fvx, fvy, fl⟩ := s
      have n32 : left.length + 1 <= 33 := by omega
      go_wp2_with (first | (go_at_call 127; ((with_reducible refine (CST.out).mono ?_); rintro e w1 ⟨rfl, h1', k1', b1'⟩; have a58 := Gm.qaZ { g with qaa := L } (.slice (some ⟨gs, 0, none⟩) L.length c); have a0 := h1'.game.cell; have q0 := h1'.qgf (by rw [hLm]; exact hlt) 0 (by omega); have q1 := h1'.qgf (by rw [hLm]; exact hlt) 1 (by omega); have q2 := h1'.qgf (by rw [hLm]; exact hlt) 2 (by omega); have q3 := h1'.qgf (by rw [hLm]; exact hlt) 3 (by omega); have q4 := h1'.qgf (by rw [hLm]; exact hlt) 4 (by omega); have q5 := h1'.qgf (by rw [hLm]; exact hlt) 5 (by omega); have R1 := (h1'.alloc (.cells #[.int .i64 fo, .int .i32 fx, .int .i32 fy, .int .i32 fvx, .int .i32 fvy, .int .i64 fl] 72)).room (n := left.length) (by show left.length < L.length; rw [hLm]; omega) ⟨fo, fx, fy, fvx, fvy, fl⟩; obtain ⟨cur, r1, r2, r3, r4⟩ := R1; have RB := qh r1; have R4 := qh r4; have KK := qh ((HR.out.keep.trans k1').alloc (.cells #[.int .i64 fo, .int .i32 fx, .int .i32 fy, .int .i32 fvx, .int .i32 fvy, .int .i64 fl] 72)); have RL := qh (qhL w1 ⟨fo, fx, fy, fvx, fvy, fl⟩); rw [hget.out] at q0 q1 q2 q3 q4 q5; simp only [Gm.Shot.cells, List.getElem?_cons_zero, List.getElem?_cons_succ, Nat.add_zero, hLm] at q0 q1 q2 q3 q4 q5 a58 a0; have QB := fun cs' => qh ((b1'.alloc (.cells #[.int .i64 fo, .int .i32 fx, .int .i32 fy, .int .i32 fvx, .int .i32 fvy, .int .i64 fl] 72)).qa4 (show Bi ≠ _ from Box.apart (b1'.alloc _) r1 (by decide)) cs'); clear h1' k1' b1' r1 r4 rc rf r58)) | ((with_reducible refine qi7 (x := .tmp 27) (y := .tmp 35) (t := 31) (e := 72) (size := 6) rfl rfl Tryz.underlying31 hI.out hS.out ?_); refine qdW.mk rfl rfl RB.out RL.out (qjz ⟨fo, fx, fy, fvx, fvy, fl⟩) r2 r3 ?_))
      go_roundg (m - (j + 1))
      case measure => omega
      case rel =>
       refine ⟨j + 1, (L.set j ⟨fo, fx, fy, fvx, fvy, fl⟩).set left.length ⟨fo, fx, fy, fvx, fvy, fl⟩, by omega, rfl, by go_num, ?_, (QB _).out⟩
       rw [hsn.out, <- HSS.out, HO.out]
       simp only [if_true]
       exact qhA HR.out hjl ⟨fo, fx, fy, fvx, fvy, fl⟩ (by have h := R4.out; rw [List.append_assoc] at h; rw [hset.out]; exact h) (KK.out.row RB.out hbg _)
  · have hjm : ¬ (j : Int) < m := by omega
    have hje : j = m := by omega
    subst hje
    rw [HM.out, List.take_length] at hR
    rw [HM.out] at rc r58
    generalize hfin : g.qaa.filter (oth iv) = fin at *
    obtain ⟨h1, h2, h3, h4, h5, h6, h7⟩ := hR
    subst h5
    have own2 := qhJ (n := fin.length) h6.own (by show fin.length <= L.length; rw [h1]; exact h2)
    dsimp only at own2
    rw [h3] at own2
    have res : Has b B { g with qaa := fin } (wr.setCell ⟨B, 58, none⟩ (.slice (some ⟨gs, 0, none⟩) fin.length c)) :=
     ⟨some ⟨gs, 0, none⟩, c, qcd (g := { g with qaa := fin }) h6.game _, ownsRow_setCell_other (a := ⟨B, 58, none⟩) own2 (by intro e; injection e with e; exact h6.apart e) _⟩
    have RES := qh res
    have K7 := qh (h7.put 58 (.slice (some ⟨gs, 0, none⟩) fin.length c))
    have HF := qh hfin
    clear h1 h2 h3 h4 h6 h7 own2 res hfin
    go_wp2
    go_end0
    rw [HF.out]
    exact ⟨rfl, RES.out, K7.out⟩
theorem qjd (g : Gm.G) (A : Option Addr) (n c i : Nat) (w : World) (hg : Gm.ok g) (hn : n = g.qaa.length) (hr : Lies w w.heap.size 6 A n (Gm.qab g.qaa)) (hi : i < 8) (ho : (g.ship i).on = true) (h0 : g.qaa.length ≠ 0) :
 Calls Tryz.prog 98 #[.agg (Gm.cells g (.slice A n c)), .int .i64 i] w (Out (Gm.remove g i) 0 w) := by
 have b1 : Box (((w.alloc (.cells (Gm.cells g (.slice A n c)) 33)).alloc (.cells #[.int .i64 i] 3)).alloc (.cells (Gm.cells qbn (.slice none 0 0)) 33)) w.heap.size 33 (Gm.cells g (.slice A n c)) := ((Box.made _ _ _).alloc _).alloc _
 have b2 : Box (((w.alloc (.cells (Gm.cells g (.slice A n c)) 33)).alloc (.cells #[.int .i64 i] 3)).alloc (.cells (Gm.cells qbn (.slice none 0 0)) 33)) (w.heap.size + 1 + 1) 33 (Gm.cells qbn (.slice none 0 0)) := Box.qan _ _ _ (by simp)
 have b3 : Box (((w.alloc (.cells (Gm.cells g (.slice A n c)) 33)).alloc (.cells #[.int .i64 i] 3)).alloc (.cells (Gm.cells qbn (.slice none 0 0)) 33)) (w.heap.size + 1) 3 #[.int .i64 i] := (Box.qan _ _ _ (by simp)).alloc _
 have hb0 := (qal w (.cells (Gm.cells g (.slice A n c)) 33) (.cells #[.int .i64 i] 3)).alloc (by simp <;> omega) (.cells (Gm.cells qbn (.slice none 0 0)) 33)
 have co := qh (qir g A n c _ hn (by have := hg.2.2.1; omega) ((hr.below hb0).wider hb0.size))
 have cm := fun X (hX : Below w.heap.size w X) => qh (qgJ g A n c X hg hn ((hr.below hX).wider hX.size))
 have cs := fun X => qh (qdm i (by omega) X)
 rw [decide_eq_true (show (0 : Int) <= i by omega), decide_eq_true (show (i : Int) < 8 by omega), Bool.and_self] at cs
 have q0 : (Gm.cells g (.slice A n c))[2 + i * 7]? = some (.bool true) := (Gm.qae g _ i 0 hi (by omega)).trans (by show some (Value.bool (g.ship i).on) = _; rw [ho])
 have hi8 : (i : Int) < 8 := by omega
 obtain ⟨t, ht⟩ : ∃ t, t = g.ship i := ⟨_, rfl⟩
 have r0 : ∀ s, (Gm.cells g s)[2 + i * 7]? = some (.bool t.on) := fun s => (Gm.qae g s i 0 hi (by omega)).trans (by rw [ht]; rfl)
 have r1 : ∀ s, (Gm.cells g s)[2 + i * 7 + 1]? = some (.int .i32 t.x) := fun s => (Gm.qae g s i 1 hi (by omega)).trans (by rw [ht]; rfl)
 have r2 : ∀ s, (Gm.cells g s)[2 + i * 7 + 2]? = some (.int .i32 t.y) := fun s => (Gm.qae g s i 2 hi (by omega)).trans (by rw [ht]; rfl)
 have r3 : ∀ s, (Gm.cells g s)[2 + i * 7 + 3]? = some (.int .i32 t.vx) := fun s => (Gm.qae g s i 3 hi (by omega)).trans (by rw [ht]; rfl)
 have r4 : ∀ s, (Gm.cells g s)[2 + i * 7 + 4]? = some (.int .i32 t.vy) := fun s => (Gm.qae g s i 4 hi (by omega)).trans (by rw [ht]; rfl)
 have r5 : ∀ s, (Gm.cells g s)[2 + i * 7 + 5]? = some (.int .i64 t.cool) := fun s => (Gm.qae g s i 5 hi (by omega)).trans (by rw [ht]; rfl)
 have r6 : ∀ s, (Gm.cells g s)[2 + i * 7 + 6]? = some (.int .i64 t.score) := fun s => (Gm.qae g s i 6 hi (by omega)).trans (by rw [ht]; rfl)
 have hN := qh hn
 have H0 := qh h0
 have hl32 := hg.2.2.1
 have HB := qh hb0
 have B1 := qh b1
 have B2 := qh b2
 have B3 := qh b3
 clear hr hn b1 b2 b3 hb0 ho hg ht h0
 go_enter Tryz.func98, Tryz.ntmps98
 go_upto_region 5 with (first | (refine qaF rfl rfl ?_) | ((with_reducible refine qaG rfl rfl ?_); apply qaL.mk rfl; (with_reducible exact B1.out)) | ((with_reducible refine qaG rfl rfl ?_); apply qaL.mk rfl; (with_reducible exact D1.out)) | ((with_reducible refine qaG rfl rfl ?_); apply qaL.mk rfl; exact F1.out) | (go_at_call 99; ((with_reducible refine (co.out).mono ?_); rintro e w1 ⟨A1, c1, rfl, ho1, hb1⟩; have HB1 := qh ((HB.out.trans (hb1.mono HB.out.size)).alloc (by have := hb1.size; simp at this; omega) (.cells (Gm.cells g (.slice A1 n c1)) 33)); have O1 := qh ((qbQ (base' := w.heap.size) ho1 (by simp; omega)).alloc (.cells (Gm.cells g (.slice A1 n c1)) 33)); have D1 := qh ((B1.out.below hb1 (by simp <;> omega)).alloc (.cells (Gm.cells g (.slice A1 n c1)) 33)); have D2 := qh ((B2.out.below hb1 (by simp <;> omega)).alloc (.cells (Gm.cells g (.slice A1 n c1)) 33)); have D3 := qh ((B3.out.below hb1 (by simp <;> omega)).alloc (.cells (Gm.cells g (.slice A1 n c1)) 33)); have s1 : w.heap.size + 1 + 1 < w1.heap.size := (by have := hb1.size; simp at this; omega); have ho1H := qh ho1; clear ho1 hb1)) | (refine qaJ rfl rfl rfl rfl rfl rfl ?_) | (go_at_call 100; ((with_reducible refine ((cm _ HB1.out).out).mono ?_); rintro e w2 ⟨rfl, hb2⟩; have HB2 := qh (HB1.out.trans (hb2.mono HB1.out.size)); have O2 := qh (own_below O1.out hb2 (Nat.le_refl _)); have F1 := qh ((Box.made w1 33 (Gm.cells g (.slice A1 n c1))).below hb2 (by simp)); have f1c := F1.out.cell; have f1f := F1.out.free; have H9 := qh ((qf1 (w := w) hN.out (qbQ (base' := w.heap.size) ho1H.out (by simp; omega))).call hb2); have E1 := (D1.out.below hb2 D1.out.lt).cell; have E3' := D3.out.below hb2 D3.out.lt; have E3 := E3'.cell; have E3H := qh E3'; have G2 := qh (D2.out.below hb2 D2.out.lt); clear hb2)) | (go_at_call 125; ((with_reducible refine ((cs _).out).mono ?_); rintro e w' ⟨rfl, rfl⟩)) | ((with_reducible refine qbe rfl rfl ?_); apply qbc.mk rfl rfl rfl; exact G2.out))
 have W5 : Has w.heap.size w1.heap.size { g with ship := Gm.upd g.ship i Gm.Ship.none } (stored w2 w1.heap.size i Gm.Ship.none) := H9.out.stored hi _
 have K5 := (Keep.refl (show w.heap.size <= w1.heap.size by omega) w2).stored (k := i) Gm.Ship.none
 obtain ⟨W, hW⟩ : ∃ W, W = stored w2 w1.heap.size i Gm.Ship.none := ⟨_, rfl⟩
 rw [<- hW] at W5 K5
 simp only [stored, Gm.Ship.none] at hW
 rw [<- hW]
 have ck := qh (qnZ { g with ship := Gm.upd g.ship i Gm.Ship.none } w.heap.size w1.heap.size (w.heap.size + 1) i W (by omega) W5 H0.out hl32 (E3H.out.keep K5 (by omega) (by decide)))
 have hmf : ∀ (fn : Fn) (first cap : Array Value) (w : World), (Instr.makeFunc fn first cap).run Tryz.prog w = .ok (.func fn first cap) w := fun _ _ _ _ => rfl
 have ne2 : w.heap.size + 1 + 1 ≠ w1.heap.size := by omega
 have R5 := qh (G2.out.keep K5 ne2 (by decide))
 have KK5 := qh (HB2.out.trans (K5.to HB2.out.size))
 clear hW W5 K5 E1 E3 f1c f1f r0 r1 r2 r3 r4 r5 r6
 go_wp2_with (first | (go_at_call 105; ((with_reducible refine (ck.out).mono ?_); rintro e w4 ⟨rfl, h4, k4⟩; obtain ⟨A4, c4, B4, O4⟩ := h4; have F4 := qh B4; have O4H := qh O4; have R4 := qh (R5.out.keep k4 ne2 (by decide)); have K4 := qh (KK5.out.trans (k4.to KK5.out.size)); clear B4 O4 k4)) | ((with_reducible refine qaG rfl rfl ?_); apply qaL.mk rfl; exact F4.out) | ((with_reducible refine qbe rfl rfl ?_); apply qbc.mk rfl rfl rfl; exact R4.out))
 refine bodyPost_ret (v := .tuple #[.agg (Gm.cells (Gm.remove g i) (.slice A4 (g.qaa.filter (oth i)).length c4)), .int .i64 0]) ?_ ?_ ?_
 · exact results_cell_tmp (p := 4) (q := 5) rfl _ _ _ _ (Gm.cells (Gm.remove g i) (.slice A4 (g.qaa.filter (oth i)).length c4)) _ rfl (Box.row R4.out _) Tryz.underlying33 rfl qbb
 · rfl
 · exact ⟨A4, c4, rfl, Lies.owned (qbf O4H.out (R4.out.qaO O4H.out (by decide)) _), Below.setRow' K4.out (by omega) _⟩
theorem qmk (g : Gm.G) (A : Option Addr) (n c i : Nat) (w : World) (hg : Gm.ok g) (hn : n = g.qaa.length) (hr : Lies w w.heap.size 6 A n (Gm.qab g.qaa)) (hi : i < 8) (ho : (g.ship i).on = true) :
 Calls Tryz.prog 98 #[.agg (Gm.cells g (.slice A n c)), .int .i64 i] w (Out (Gm.remove g i) 0 w) := by
 by_cases h0 : g.qaa.length = 0
 · have h0' : g.qaa = [] := List.eq_nil_of_length_eq_zero h0
   have e : Gm.remove g i = { g with ship := Gm.upd g.ship i Gm.Ship.none } := by unfold Gm.remove; rw [h0']; rfl
   rw [e]
   exact qmj g A n c i w hg hn hr hi ho h0'
 · exact qjd g A n c i w hg hn hr hi ho h0
attribute [local go_sem] Oper.semAt_some
structure qdI (B Bg Bf Bl : Nat) (w0 : World) (r : Ros.R) (st : Int × Int) (W : World) : Prop where
 sit : Sit B Bg w0 r W
 fr : Box W Bf 3 #[.int .i64 st.1]
 le : Box W Bl 3 #[.int .i64 st.2]
section
variable {B Bg Bf Bl : Nat} {w0 W W' : World} {r : Ros.R} {st : Int × Int}
theorem qdI.turned {row : Option Nat} (h : qdI B Bg Bf Bl w0 r st W) (hg : W.grownBy W' row) (hr : ∀ r, row = some r -> w0.heap.size <= r /\ ∃ o : Obj, W.heap[r]? = some o /\ o.isCells = false) : qdI B Bg Bf Bl w0 r st W' :=
 ⟨h.sit.turned hg hr, h.fr.turned hg fun r e => (hr r e).2, h.le.turned hg fun r e => (hr r e).2⟩
theorem qdI.call (h : qdI B Bg Bf Bl w0 r st W) (hb : Below W.heap.size W W') : qdI B Bg Bf Bl w0 r st W' :=
 ⟨h.sit.call hb, h.fr.below hb h.fr.lt, h.le.below hb h.le.lt⟩
theorem qdI.drew (h : qdI B Bg Bf Bl w0 r st W) : qdI B Bg Bf Bl w0 r st W.drew := ⟨h.sit.drew, h.fr.drew, h.le.drew⟩
end
structure qdH (B Bg Bm : Nat) (w0 : World) (r : Ros.R) (m : Nat) (W : World) : Prop where
 sit : Sit B Bg w0 r W
 bits : Box W Bm 3 #[.int .i64 (m : Int)]
section
variable {B Bg Bm m : Nat} {w0 W W' : World} {r : Ros.R}
theorem qdH.turned {row : Option Nat} (h : qdH B Bg Bm w0 r m W) (hg : W.grownBy W' row) (hr : ∀ r, row = some r -> w0.heap.size <= r /\ ∃ o : Obj, W.heap[r]? = some o /\ o.isCells = false) : qdH B Bg Bm w0 r m W' :=
 ⟨h.sit.turned hg hr, h.bits.turned hg fun r e => (hr r e).2⟩
theorem qdH.drew (h : qdH B Bg Bm w0 r m W) : qdH B Bg Bm w0 r m W.drew := ⟨h.sit.drew, h.bits.drew⟩
theorem qdH.put (h : qdH B Bg Bm w0 r m W) (hl : w0.heap.size <= Bm) (n : Nat) : qdH B Bg Bm w0 r n (W.setCell ⟨Bm, 0, none⟩ (.int .i64 (n : Int))) :=
 ⟨h.sit.far (p := ⟨Bm, 0, none⟩) h.bits (by decide) (by decide) hl, h.bits.put 0 _⟩
end
end Go.Proofs.YtbdlpbnfcnhajaaGreat
namespace Go.Proofs.YtbdlpbnfcnhajaaGreat
open Go.RowKit Go.Shelf
theorem qcB (r : Ros.R) (s : Int) (w : World) :
 Calls Tryz.prog 140 #[.agg (Ros.cells r), .int .i64 s] w fun e w' => e = .returned (.bool (decide ((Ros.Ok r /\ r.version < 1073741824) /\ 0 <= s /\ s < 8))) /\ Below w.heap.size w w' := by
 have cm := fun X => qh (qfc r X)
 have cs := fun X => qh (qdu s X)
 have P0 := qh (Box.made w 38 (Ros.cells r))
 have PB := qh (qac w (.cells (Ros.cells r) 38))
 have c0 := Ros.qaS r
 by_cases hok : Ros.Ok r
 · have hmay : Ros.may r = true := decide_eq_true hok
   rw [hmay] at cm
   by_cases hv : r.version < 1073741824
   · have dv : decide (r.version < 1073741824) = true := decide_eq_true hv
     by_cases hs : 0 <= s /\ s < 8
     · rw [decide_eq_true hs] at cs
       have HD : Hid (decide ((Ros.Ok r /\ r.version < 1073741824) /\ 0 <= s /\ s < 8) = true) := qh (decide_eq_true ⟨⟨hok, hv⟩, hs⟩)
       clear hok hmay hv hs
       go_enter Tryz.func140, Tryz.ntmps140
       go_wp2_with (first | ((with_reducible refine qak rfl rfl ?_); apply qah.mk rfl; (focus (with_reducible exact P0.out)); (focus (exact qad))) | (go_at_call 111; ((with_reducible refine ((cm _).out).mono ?_); rintro e w1 ⟨rfl, hb1⟩; have Q0 := qh (P0.out.below hb1 P0.out.lt); have QB := qh (PB.out.trans (hb1.mono PB.out.size)); have q0 := Q0.out.cell; clear hb1)) | (go_at_call 123; ((with_reducible refine ((cs _).out).mono ?_); rintro e w2 ⟨rfl, rfl⟩)))
       go_ret
       exact ⟨by rw [HD.out]; rfl, QB.out⟩
     · rw [decide_eq_false hs] at cs
       have HD : Hid (decide ((Ros.Ok r /\ r.version < 1073741824) /\ 0 <= s /\ s < 8) = false) := qh (decide_eq_false fun h => hs h.2)
       clear hok hmay hv hs
       go_enter Tryz.func140, Tryz.ntmps140
       go_wp2_with (first | ((with_reducible refine qak rfl rfl ?_); apply qah.mk rfl; (focus (with_reducible exact P0.out)); (focus (exact qad))) | (go_at_call 111; ((with_reducible refine ((cm _).out).mono ?_); rintro e w1 ⟨rfl, hb1⟩; have Q0 := qh (P0.out.below hb1 P0.out.lt); have QB := qh (PB.out.trans (hb1.mono PB.out.size)); have q0 := Q0.out.cell; clear hb1)) | (go_at_call 123; ((with_reducible refine ((cs _).out).mono ?_); rintro e w2 ⟨rfl, rfl⟩)))
       go_ret
       exact ⟨by rw [HD.out]; rfl, QB.out⟩
   · have dv : decide (r.version < 1073741824) = false := decide_eq_false hv
     have HD : Hid (decide ((Ros.Ok r /\ r.version < 1073741824) /\ 0 <= s /\ s < 8) = false) := qh (decide_eq_false fun h => hv h.1.2)
     clear hok hmay hv
     go_enter Tryz.func140, Tryz.ntmps140
     go_wp2_with (first | ((with_reducible refine qak rfl rfl ?_); apply qah.mk rfl; (focus (with_reducible exact P0.out)); (focus (exact qad))) | (go_at_call 111; ((with_reducible refine ((cm _).out).mono ?_); rintro e w1 ⟨rfl, hb1⟩; have Q0 := qh (P0.out.below hb1 P0.out.lt); have QB := qh (PB.out.trans (hb1.mono PB.out.size)); have q0 := Q0.out.cell; clear hb1)) | (go_at_call 123; ((with_reducible refine ((cs _).out).mono ?_); rintro e w2 ⟨rfl, rfl⟩)))
     go_ret
     exact ⟨by rw [HD.out]; rfl, QB.out⟩
 · have hmay : Ros.may r = false := decide_eq_false hok
   rw [hmay] at cm
   have HD : Hid (decide ((Ros.Ok r /\ r.version < 1073741824) /\ 0 <= s /\ s < 8) = false) := qh (decide_eq_false fun h => hok h.1.1)
   clear hok hmay
   go_enter Tryz.func140, Tryz.ntmps140
   go_wp2_with (first | ((with_reducible refine qak rfl rfl ?_); apply qah.mk rfl; (focus (with_reducible exact P0.out)); (focus (exact qad))) | (go_at_call 111; ((with_reducible refine ((cm _).out).mono ?_); rintro e w1 ⟨rfl, hb1⟩; have Q0 := qh (P0.out.below hb1 P0.out.lt); have QB := qh (PB.out.trans (hb1.mono PB.out.size)); have q0 := Q0.out.cell; clear hb1)) | (go_at_call 123; ((with_reducible refine ((cs _).out).mono ?_); rintro e w2 ⟨rfl, rfl⟩)))
   go_ret
   exact ⟨by rw [HD.out]; rfl, QB.out⟩
theorem Box.rosv {w : World} {B : Nat} {r : Ros.R} (h : Box w B 38 (Ros.cells r)) (v : Int) : Box (w.setCell ⟨B, 0, none⟩ (.int .i64 v)) B 38 (Ros.cells { r with version := v }) := Ros.qmV r v ▸ h.put 0 _
theorem Box.rosp {w : World} {B k : Nat} {r : Ros.R} (h : Box w B 38 (Ros.cells r)) (hk : k < 8) (v : Int) : Box (w.setCell ⟨B, 1 + k * 2, none⟩ (.int .i64 v)) B 38 (Ros.cells { r with peer := Ros.upd r.peer k v }) := Ros.qfo r k hk v ▸ h.put _ _
theorem Box.rosg {w : World} {B k : Nat} {r : Ros.R} (h : Box w B 38 (Ros.cells r)) (hk : k < 8) (v : Int) : Box (w.setCell ⟨B, 1 + k * 2 + 1, none⟩ (.int .i64 v)) B 38 (Ros.cells { r with gen := Ros.upd r.gen k v }) := Ros.qmW r k hk v ▸ h.put _ _
theorem ql9 (r : Ros.R) (s : Int) (w : World) (hno : ¬ Ros.qbM r s) :
 Calls Tryz.prog 124 #[.agg (Ros.cells r), .int .i64 s] w fun e w' => e = .returned (.tuple #[.agg (Ros.cells r), .int .i64 1]) /\ Below w.heap.size w w' := by
 have cc := fun X => qh (qcB r s X)
 have P0 := qh ((Box.made w 38 (Ros.cells r)).alloc (.cells (Ros.cells qai) 38))
 have P1 := qh (Box.qan (n := w.heap.size + 1) (w.alloc (.cells (Ros.cells r) 38)) 38 (Ros.cells qai) (by simp))
 have PB := qh (qal w (.cells (Ros.cells r) 38) (.cells (Ros.cells qai) 38))
 have c0 := Ros.qaS r
 by_cases hch : (Ros.Ok r /\ r.version < 1073741824) /\ 0 <= s /\ s < 8
 · rw [decide_eq_true hch] at cc
   have hp : r.peer s.toNat = -1 := Decidable.byContradiction fun h => hno ⟨hch, h⟩
   obtain ⟨k, rfl⟩ : ∃ k : Nat, s = k := ⟨s.toNat, by omega⟩
   have hk : k < 8 := by omega
   have hk8 : (k : Int) < 8 := by omega
   have cpk := Ros.qaB r k hk
   rw [show r.peer k = -1 from hp] at cpk
   clear hch hp hno
   go_enter Tryz.func124, Tryz.ntmps124
   go_wp2_with (first | ((with_reducible refine qaq rfl rfl ?_)) | ((with_reducible refine qak rfl rfl ?_); apply qah.mk rfl; (focus (with_reducible exact P0.out)); (focus (exact qad))) | (go_at_call 140; ((with_reducible refine ((cc _).out).mono ?_); rintro e w1 ⟨rfl, hb⟩; have Q0 := qh (P0.out.below hb P0.out.lt); have Q1 := qh (P1.out.below hb P1.out.lt); have QB := qh (PB.out.trans (hb.mono PB.out.size)); have q0 := Q0.out.cell; have qf := Q0.out.free; clear hb)) | ((with_reducible refine qak rfl rfl ?_); apply qah.mk rfl; (focus (with_reducible exact Q0.out)); (focus (exact qad))) | ((with_reducible refine qav rfl rfl ?_); apply qaz.mk rfl rfl; (focus (with_reducible exact Q1.out)); (focus (exact qad)); (focus rfl); (focus (exact qaK _))))
   have hE := Q1.out.row (Ros.cells r)
   refine bodyPost_ret (v := .tuple #[.agg (Ros.cells r), .int .i64 1]) ?_ rfl ?_
   · exact results_cell_tmp (p := 4) (q := 5) rfl _ _ _ _ (Ros.cells r) _ rfl hE Tryz.underlying38 rfl qad
   · exact ⟨rfl, Below.setRow' QB.out (by omega) _⟩
 · rw [decide_eq_false hch] at cc
   clear hch hno
   go_enter Tryz.func124, Tryz.ntmps124
   go_wp2_with (first | ((with_reducible refine qaq rfl rfl ?_)) | ((with_reducible refine qak rfl rfl ?_); apply qah.mk rfl; (focus (with_reducible exact P0.out)); (focus (exact qad))) | (go_at_call 140; ((with_reducible refine ((cc _).out).mono ?_); rintro e w1 ⟨rfl, hb⟩; have Q0 := qh (P0.out.below hb P0.out.lt); have Q1 := qh (P1.out.below hb P1.out.lt); have QB := qh (PB.out.trans (hb.mono PB.out.size)); have q0 := Q0.out.cell; have qf := Q0.out.free; clear hb)) | ((with_reducible refine qak rfl rfl ?_); apply qah.mk rfl; (focus (with_reducible exact Q0.out)); (focus (exact qad))) | ((with_reducible refine qav rfl rfl ?_); apply qaz.mk rfl rfl; (focus (with_reducible exact Q1.out)); (focus (exact qad)); (focus rfl); (focus (exact qaK _))))
   have hE := Q1.out.row (Ros.cells r)
   refine bodyPost_ret (v := .tuple #[.agg (Ros.cells r), .int .i64 1]) ?_ rfl ?_
   · exact results_cell_tmp (p := 4) (q := 5) rfl _ _ _ _ (Ros.cells r) _ rfl hE Tryz.underlying38 rfl qad
   · exact ⟨rfl, Below.setRow' QB.out (by omega) _⟩
theorem qko (r : Ros.R) (k : Nat) (w : World) (hyes : Ros.qbM r k) :
 Calls Tryz.prog 124 #[.agg (Ros.cells r), .int .i64 k] w fun e w' => e = .returned (.tuple #[.agg (Ros.cells (Ros.give r k)), .int .i64 0]) /\ Below w.heap.size w w' := by
 have cc := fun X => qh (qcB r k X)
 have P0 := qh ((Box.made w 38 (Ros.cells r)).alloc (.cells (Ros.cells qai) 38))
 have P1 := qh (Box.qan (n := w.heap.size + 1) (w.alloc (.cells (Ros.cells r) 38)) 38 (Ros.cells qai) (by simp))
 have PB := qh (qal w (.cells (Ros.cells r) 38) (.cells (Ros.cells qai) 38))
 have c0 := Ros.qaS r
 obtain ⟨hch, hp⟩ := hyes
 rw [decide_eq_true hch] at cc
 have hk : k < 8 := by omega
 have hk8 : (k : Int) < 8 := by omega
 have cpk := Ros.qaB r k hk
 obtain ⟨pk, hpk⟩ : ∃ pk, r.peer k = pk := ⟨_, rfl⟩
 have hp' : r.peer k ≠ -1 := hp
 rw [hpk] at cpk hp'
 have hb : (pk == -1) = false := by simpa using hp'
 have hwrap : IntKind.i64.wrap (r.version + 1) = r.version + 1 := by rw [IntKind.wrap_i64]; have := hch.1.1.1; omega
 clear hch hp hp' hpk
 go_enter Tryz.func124, Tryz.ntmps124
 go_upto_region 5 with (first | ((with_reducible refine qaq rfl rfl ?_)) | ((with_reducible refine qak rfl rfl ?_); apply qah.mk rfl; (focus (with_reducible exact P0.out)); (focus (exact qad))) | (go_at_call 140; ((with_reducible refine ((cc _).out).mono ?_); rintro e w1 ⟨rfl, hb⟩; have Q0 := qh (P0.out.below hb P0.out.lt); have Q1 := qh (P1.out.below hb P1.out.lt); have QB := qh (PB.out.trans (hb.mono PB.out.size)); have q0 := Q0.out.cell; have qf := Q0.out.free; clear hb)))
 obtain ⟨U, hU⟩ : ∃ U, U = (w1.setCell ⟨w.heap.size, 1 + k * 2, none⟩ (.int .i64 (-1))).setCell ⟨w.heap.size, 0, none⟩ (.int .i64 (r.version + 1)) := ⟨_, rfl⟩
 have U0 : Box U w.heap.size 38 (Ros.cells (Ros.give r k)) := by rw [hU]; exact (Q0.out.rosp hk (-1)).rosv _
 have U1 : Box U (w.heap.size + 1) 38 (Ros.cells qai) := by rw [hU]; exact (Q1.out.far (by show _ ≠ _; simp) _).far (by show _ ≠ _; simp) _
 have UB : Below w.heap.size w U := by rw [hU]; exact (QB.out.setCell (Nat.le_refl _) _).setCell (Nat.le_refl _) _
 rw [<- hU]
 have V0 := qh U0
 have V1 := qh U1
 have VB := qh UB
 clear hU U0 U1 UB Q0 Q1 QB q0 qf
 go_wp2_with (first | ((with_reducible refine qak rfl rfl ?_); apply qah.mk rfl; (focus (with_reducible exact V0.out)); (focus (exact qad))) | ((with_reducible refine qav rfl rfl ?_); apply qaz.mk rfl rfl; (focus (with_reducible exact V1.out)); (focus (exact qad)); (focus rfl); (focus (exact qaK _))))
 have hE := V1.out.row (Ros.cells (Ros.give r k))
 refine bodyPost_ret (v := .tuple #[.agg (Ros.cells (Ros.give r k)), .int .i64 0]) ?_ rfl ?_
 · exact results_cell_tmp (p := 4) (q := 5) rfl _ _ _ _ (Ros.cells (Ros.give r k)) _ rfl hE Tryz.underlying38 rfl qad
 · exact ⟨rfl, Below.setRow' VB.out (by omega) _⟩
theorem ql7 (r : Ros.R) (s p : Int) (w : World) (hno : ¬ Ros.qbD r s p) :
 Calls Tryz.prog 122 #[.agg (Ros.cells r), .int .i64 s, .int .i64 p] w fun e w' => e = .returned (.tuple #[.agg (Ros.cells r), .int .i64 1]) /\ Below w.heap.size w w' := by
 have cc := fun X => qh (qcB r s X)
 have cp := fun X => qh (qdv p X)
 have co := fun X => qh (qi6 r p X)
 have P0 := qh ((Box.made w 38 (Ros.cells r)).alloc (.cells (Ros.cells qai) 38))
 have P1 := qh (Box.qan (n := w.heap.size + 1) (w.alloc (.cells (Ros.cells r) 38)) 38 (Ros.cells qai) (by simp))
 have PB := qh (qal w (.cells (Ros.cells r) 38) (.cells (Ros.cells qai) 38))
 have c0 := Ros.qaS r
 by_cases hch : (Ros.Ok r /\ r.version < 1073741824) /\ 0 <= s /\ s < 8
 · rw [decide_eq_true hch] at cc
   by_cases hp : 0 <= p /\ p < 12
   · rw [decide_eq_true hp] at cp
     by_cases ho : Ros.of r p = -1
     · rw [ho] at co
       obtain ⟨k, rfl⟩ : ∃ k : Nat, s = k := ⟨s.toNat, by omega⟩
       have hk : k < 8 := by omega
       have hk8 : (k : Int) < 8 := by omega
       have cpk := Ros.qaB r k hk
       have cgk := Ros.qaV r k hk
       by_cases hpk : r.peer k = -1
       · have hgk : r.gen k = 60000 := Decidable.byContradiction fun h => hno ⟨⟨hch, hp, ho⟩, hpk, h⟩
         rw [hpk] at cpk
         rw [hgk] at cgk
         clear hno hch hp ho hpk hgk
         go_enter Tryz.func122, Tryz.ntmps122
         go_wp2_with (first | ((with_reducible refine qaq rfl rfl ?_)) | ((with_reducible refine qak rfl rfl ?_); apply qah.mk rfl; (focus (with_reducible exact P0.out)); (focus (exact qad))) | (go_at_call 140; ((with_reducible refine ((cc _).out).mono ?_); rintro e w1 ⟨rfl, hb⟩; have Q0 := qh (P0.out.below hb P0.out.lt); have Q1 := qh (P1.out.below hb P1.out.lt); have QB := qh (PB.out.trans (hb.mono PB.out.size)); have q0 := Q0.out.cell; have qf := Q0.out.free; clear hb)) | (go_at_call 141; ((with_reducible refine ((cp _).out).mono ?_); rintro e w9 ⟨rfl, rfl⟩)) | (go_at_call 142; ((with_reducible refine ((co _).out).mono ?_); rintro e w2 ⟨rfl, hb⟩; have S0 := qh (Q0.out.below hb Q0.out.lt); have S1 := qh (Q1.out.below hb Q1.out.lt); have SB := qh (QB.out.trans (hb.mono QB.out.size)); have s0 := S0.out.cell; have sf := S0.out.free; clear hb)) | ((with_reducible refine qbj ?_ rfl ?_); (focus first | rfl | kernel_rfl | simp [Region.wanted, yielded]); apply qah.mk rfl; (focus (with_reducible exact Q0.out)); (focus (exact qad))) | ((with_reducible refine qak rfl rfl ?_); apply qah.mk rfl; (focus (with_reducible exact S0.out)); (focus (exact qad))) | ((with_reducible refine qav rfl rfl ?_); apply qaz.mk rfl rfl; (focus (with_reducible exact S1.out)); (focus (exact qad)); (focus rfl); (focus (exact qaK _))))
         have hE := S1.out.row (Ros.cells r)
         refine bodyPost_ret (v := .tuple #[.agg (Ros.cells r), .int .i64 1]) ?_ rfl ?_
         · exact results_cell_tmp (p := 6) (q := 7) rfl _ _ _ _ (Ros.cells r) _ rfl hE Tryz.underlying38 rfl qad
         · exact ⟨rfl, Below.setRow' SB.out (by omega) _⟩
       · obtain ⟨pk, hpe⟩ : ∃ pk, r.peer k = pk := ⟨_, rfl⟩
         rw [hpe] at cpk hpk
         have hb : (pk == -1) = false := by simpa using hpk
         have hb' : (pk != -1) = true := by simpa using hpk
         clear hno hch hp ho hpk hpe
         go_enter Tryz.func122, Tryz.ntmps122
         go_wp2_with (first | ((with_reducible refine qaq rfl rfl ?_)) | ((with_reducible refine qak rfl rfl ?_); apply qah.mk rfl; (focus (with_reducible exact P0.out)); (focus (exact qad))) | (go_at_call 140; ((with_reducible refine ((cc _).out).mono ?_); rintro e w1 ⟨rfl, hb⟩; have Q0 := qh (P0.out.below hb P0.out.lt); have Q1 := qh (P1.out.below hb P1.out.lt); have QB := qh (PB.out.trans (hb.mono PB.out.size)); have q0 := Q0.out.cell; have qf := Q0.out.free; clear hb)) | (go_at_call 141; ((with_reducible refine ((cp _).out).mono ?_); rintro e w9 ⟨rfl, rfl⟩)) | (go_at_call 142; ((with_reducible refine ((co _).out).mono ?_); rintro e w2 ⟨rfl, hb⟩; have S0 := qh (Q0.out.below hb Q0.out.lt); have S1 := qh (Q1.out.below hb Q1.out.lt); have SB := qh (QB.out.trans (hb.mono QB.out.size)); have s0 := S0.out.cell; have sf := S0.out.free; clear hb)) | ((with_reducible refine qbj ?_ rfl ?_); (focus first | rfl | kernel_rfl | simp [Region.wanted, yielded]); apply qah.mk rfl; (focus (with_reducible exact Q0.out)); (focus (exact qad))) | ((with_reducible refine qak rfl rfl ?_); apply qah.mk rfl; (focus (with_reducible exact S0.out)); (focus (exact qad))) | ((with_reducible refine qav rfl rfl ?_); apply qaz.mk rfl rfl; (focus (with_reducible exact S1.out)); (focus (exact qad)); (focus rfl); (focus (exact qaK _))))
         have hE := S1.out.row (Ros.cells r)
         refine bodyPost_ret (v := .tuple #[.agg (Ros.cells r), .int .i64 1]) ?_ rfl ?_
         · exact results_cell_tmp (p := 6) (q := 7) rfl _ _ _ _ (Ros.cells r) _ rfl hE Tryz.underlying38 rfl qad
         · exact ⟨rfl, Below.setRow' SB.out (by omega) _⟩
     · have hb' : (Ros.of r p != -1) = true := by simpa using ho
       generalize Ros.of r p = o at co hb'
       clear hno hch hp ho
       go_enter Tryz.func122, Tryz.ntmps122
       go_wp2_with (first | ((with_reducible refine qaq rfl rfl ?_)) | ((with_reducible refine qak rfl rfl ?_); apply qah.mk rfl; (focus (with_reducible exact P0.out)); (focus (exact qad))) | (go_at_call 140; ((with_reducible refine ((cc _).out).mono ?_); rintro e w1 ⟨rfl, hb⟩; have Q0 := qh (P0.out.below hb P0.out.lt); have Q1 := qh (P1.out.below hb P1.out.lt); have QB := qh (PB.out.trans (hb.mono PB.out.size)); have q0 := Q0.out.cell; have qf := Q0.out.free; clear hb)) | (go_at_call 141; ((with_reducible refine ((cp _).out).mono ?_); rintro e w9 ⟨rfl, rfl⟩)) | (go_at_call 142; ((with_reducible refine ((co _).out).mono ?_); rintro e w2 ⟨rfl, hb⟩; have S0 := qh (Q0.out.below hb Q0.out.lt); have S1 := qh (Q1.out.below hb Q1.out.lt); have SB := qh (QB.out.trans (hb.mono QB.out.size)); have s0 := S0.out.cell; have sf := S0.out.free; clear hb)) | ((with_reducible refine qbj ?_ rfl ?_); (focus first | rfl | kernel_rfl | simp [Region.wanted, yielded]); apply qah.mk rfl; (focus (with_reducible exact Q0.out)); (focus (exact qad))) | ((with_reducible refine qak rfl rfl ?_); apply qah.mk rfl; (focus (with_reducible exact S0.out)); (focus (exact qad))) | ((with_reducible refine qav rfl rfl ?_); apply qaz.mk rfl rfl; (focus (with_reducible exact S1.out)); (focus (exact qad)); (focus rfl); (focus (exact qaK _))))
       have hE := S1.out.row (Ros.cells r)
       refine bodyPost_ret (v := .tuple #[.agg (Ros.cells r), .int .i64 1]) ?_ rfl ?_
       · exact results_cell_tmp (p := 6) (q := 7) rfl _ _ _ _ (Ros.cells r) _ rfl hE Tryz.underlying38 rfl qad
       · exact ⟨rfl, Below.setRow' SB.out (by omega) _⟩
   · rw [decide_eq_false hp] at cp
     clear hno hch hp
     go_enter Tryz.func122, Tryz.ntmps122
     go_wp2_with (first | ((with_reducible refine qaq rfl rfl ?_)) | ((with_reducible refine qak rfl rfl ?_); apply qah.mk rfl; (focus (with_reducible exact P0.out)); (focus (exact qad))) | (go_at_call 140; ((with_reducible refine ((cc _).out).mono ?_); rintro e w1 ⟨rfl, hb⟩; have Q0 := qh (P0.out.below hb P0.out.lt); have Q1 := qh (P1.out.below hb P1.out.lt); have QB := qh (PB.out.trans (hb.mono PB.out.size)); have q0 := Q0.out.cell; have qf := Q0.out.free; clear hb)) | (go_at_call 141; ((with_reducible refine ((cp _).out).mono ?_); rintro e w9 ⟨rfl, rfl⟩)) | ((with_reducible refine qak rfl rfl ?_); apply qah.mk rfl; (focus (with_reducible exact Q0.out)); (focus (exact qad))) | ((with_reducible refine qav rfl rfl ?_); apply qaz.mk rfl rfl; (focus (with_reducible exact Q1.out)); (focus (exact qad)); (focus rfl); (focus (exact qaK _))))
     have hE := Q1.out.row (Ros.cells r)
     refine bodyPost_ret (v := .tuple #[.agg (Ros.cells r), .int .i64 1]) ?_ rfl ?_
     · exact results_cell_tmp (p := 6) (q := 7) rfl _ _ _ _ (Ros.cells r) _ rfl hE Tryz.underlying38 rfl qad
     · exact ⟨rfl, Below.setRow' QB.out (by omega) _⟩
 · rw [decide_eq_false hch] at cc
   clear hch hno
   go_enter Tryz.func122, Tryz.ntmps122
   go_wp2_with (first | ((with_reducible refine qaq rfl rfl ?_)) | ((with_reducible refine qak rfl rfl ?_); apply qah.mk rfl; (focus (with_reducible exact P0.out)); (focus (exact qad))) | (go_at_call 140; ((with_reducible refine ((cc _).out).mono ?_); rintro e w1 ⟨rfl, hb⟩; have Q0 := qh (P0.out.below hb P0.out.lt); have Q1 := qh (P1.out.below hb P1.out.lt); have QB := qh (PB.out.trans (hb.mono PB.out.size)); have q0 := Q0.out.cell; have qf := Q0.out.free; clear hb)) | ((with_reducible refine qak rfl rfl ?_); apply qah.mk rfl; (focus (with_reducible exact Q0.out)); (focus (exact qad))) | ((with_reducible refine qav rfl rfl ?_); apply qaz.mk rfl rfl; (focus (with_reducible exact Q1.out)); (focus (exact qad)); (focus rfl); (focus (exact qaK _))))
   have hE := Q1.out.row (Ros.cells r)
   refine bodyPost_ret (v := .tuple #[.agg (Ros.cells r), .int .i64 1]) ?_ rfl ?_
   · exact results_cell_tmp (p := 6) (q := 7) rfl _ _ _ _ (Ros.cells r) _ rfl hE Tryz.underlying38 rfl qad
   · exact ⟨rfl, Below.setRow' QB.out (by omega) _⟩
theorem qgu (r : Ros.R) (k : Nat) (p : Int) (w : World) (hyes : Ros.qbD r k p) :
 Calls Tryz.prog 122 #[.agg (Ros.cells r), .int .i64 k, .int .i64 p] w fun e w' => e = .returned (.tuple #[.agg (Ros.cells (Ros.take r k p)), .int .i64 0]) /\ Below w.heap.size w w' := by
 have cc := fun X => qh (qcB r k X)
 have cp := fun X => qh (qdv p X)
 have co := fun X => qh (qi6 r p X)
 have P0 := qh ((Box.made w 38 (Ros.cells r)).alloc (.cells (Ros.cells qai) 38))
 have P1 := qh (Box.qan (n := w.heap.size + 1) (w.alloc (.cells (Ros.cells r) 38)) 38 (Ros.cells qai) (by simp))
 have PB := qh (qal w (.cells (Ros.cells r) 38) (.cells (Ros.cells qai) 38))
 have c0 := Ros.qaS r
 obtain ⟨⟨hch, hp, ho⟩, hpk, hgk⟩ := hyes
 rw [decide_eq_true hch] at cc
 rw [decide_eq_true hp] at cp
 rw [ho] at co
 have hk : k < 8 := by omega
 have hk8 : (k : Int) < 8 := by omega
 have cpk := Ros.qaB r k hk
 have cgk := Ros.qaV r k hk
 rw [show r.peer k = -1 from hpk] at cpk
 have hgk' : r.gen k ≠ 60000 := hgk
 have hgb := (Ros.Ok.seat hch.1.1 k hk).1
 obtain ⟨gk, hge⟩ : ∃ gk, r.gen k = gk := ⟨_, rfl⟩
 have HGE := qh hge
 rw [hge] at cgk hgk' hgb
 have hb : (gk == 60000) = false := by simpa using hgk'
 have hwg : IntKind.i64.wrap (gk + 1) = gk + 1 := by rw [IntKind.wrap_i64]; omega
 have hwrap : IntKind.i64.wrap (r.version + 1) = r.version + 1 := by rw [IntKind.wrap_i64]; have := hch.1.1.1; omega
 clear hch hp ho hpk hgk hgk' hge hgb
 go_enter Tryz.func122, Tryz.ntmps122
 go_upto_region 9 with (first | ((with_reducible refine qaq rfl rfl ?_)) | ((with_reducible refine qak rfl rfl ?_); apply qah.mk rfl; (focus (with_reducible exact P0.out)); (focus (exact qad))) | (go_at_call 140; ((with_reducible refine ((cc _).out).mono ?_); rintro e w1 ⟨rfl, hb⟩; have Q0 := qh (P0.out.below hb P0.out.lt); have Q1 := qh (P1.out.below hb P1.out.lt); have QB := qh (PB.out.trans (hb.mono PB.out.size)); have q0 := Q0.out.cell; have qf := Q0.out.free; clear hb)) | (go_at_call 141; ((with_reducible refine ((cp _).out).mono ?_); rintro e w9 ⟨rfl, rfl⟩)) | (go_at_call 142; ((with_reducible refine ((co _).out).mono ?_); rintro e w2 ⟨rfl, hb⟩; have S0 := qh (Q0.out.below hb Q0.out.lt); have S1 := qh (Q1.out.below hb Q1.out.lt); have SB := qh (QB.out.trans (hb.mono QB.out.size)); have s0 := S0.out.cell; have sf := S0.out.free; clear hb)) | ((with_reducible refine qbj ?_ rfl ?_); (focus first | rfl | kernel_rfl | simp [Region.wanted, yielded]); apply qah.mk rfl; (focus (with_reducible exact Q0.out)); (focus (exact qad))))
 obtain ⟨U, hU⟩ : ∃ U, U = ((w2.setCell ⟨w.heap.size, 1 + k * 2, none⟩ (.int .i64 p)).setCell ⟨w.heap.size, 1 + k * 2 + 1, none⟩ (.int .i64 (gk + 1))).setCell ⟨w.heap.size, 0, none⟩ (.int .i64 (r.version + 1)) := ⟨_, rfl⟩
 have U0 : Box U w.heap.size 38 (Ros.cells (Ros.take r k p)) := by rw [hU]; unfold Ros.take; rw [HGE.out]; exact ((S0.out.rosp hk p).rosg hk _).rosv _
 have U1 : Box U (w.heap.size + 1) 38 (Ros.cells qai) := by rw [hU]; exact ((S1.out.far (by show _ ≠ _; simp) _).far (by show _ ≠ _; simp) _).far (by show _ ≠ _; simp) _
 have UB : Below w.heap.size w U := by rw [hU]; exact ((SB.out.setCell (Nat.le_refl _) _).setCell (Nat.le_refl _) _).setCell (Nat.le_refl _) _
 rw [<- hU]
 have V0 := qh U0
 have V1 := qh U1
 have VB := qh UB
 clear hU U0 U1 UB S0 S1 SB s0 sf Q0 Q1 QB q0 qf
 go_wp2_with (first | ((with_reducible refine qak rfl rfl ?_); apply qah.mk rfl; (focus (with_reducible exact V0.out)); (focus (exact qad))) | ((with_reducible refine qav rfl rfl ?_); apply qaz.mk rfl rfl; (focus (with_reducible exact V1.out)); (focus (exact qad)); (focus rfl); (focus (exact qaK _))))
 have hE := V1.out.row (Ros.cells (Ros.take r k p))
 refine bodyPost_ret (v := .tuple #[.agg (Ros.cells (Ros.take r k p)), .int .i64 0]) ?_ rfl ?_
 · exact results_cell_tmp (p := 6) (q := 7) rfl _ _ _ _ (Ros.cells (Ros.take r k p)) _ rfl hE Tryz.underlying38 rfl qad
 · exact ⟨rfl, Below.setRow' VB.out (by omega) _⟩
end Go.Proofs.YtbdlpbnfcnhajaaGreat