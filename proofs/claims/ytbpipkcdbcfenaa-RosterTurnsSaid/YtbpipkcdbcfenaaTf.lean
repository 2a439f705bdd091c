/-
The program's roster: which slot is free; who has one, by bits.
-/
import Derived.Test.YtbpipkcdbcfenaaTe
namespace Go.Proofs.Ytbpipkcdbcfenaa
open Go.RowKit Go.Shelf
set_option linter.unusedVariables false
set_option linter.unusedSimpArgs false
attribute [local go_sem] Oper.semAt_some

theorem orr_nat (a b : Nat) (ha : a < 9223372036854775808) (hb : b < 9223372036854775808) : bits .or .i64 (a : Int) (b : Int) = ((a ||| b : Nat) : Int) := by
  have hx : a ||| b < 2 ^ 63 := Nat.or_lt_two_pow (by omega) (by omega)
  show IntKind.i64.wrap ((BitVec.ofInt 64 (a : Int) ||| BitVec.ofInt 64 (b : Int)).toNat : Int) = _
  rw [BitVec.toNat_or, BitVec.toNat_ofInt, BitVec.toNat_ofInt, IntKind.wrap_i64]
  rw [show ((a : Int) % ((2 ^ 64 : Nat) : Int)).toNat = a from by omega, show ((b : Int) % ((2 ^ 64 : Nat) : Int)).toNat = b from by omega]
  omega
theorem shl_one (k : Nat) (hk : k < 8) : IntKind.i64.wrap ((2 : Int) ^ k) = ((2 ^ k : Nat) : Int) := by
  match k, hk with
  | 0, _ | 1, _ | 2, _ | 3, _ | 4, _ | 5, _ | 6, _ | 7, _ => rfl
theorem Ros.mask_bd (r : Ros.R) : ∀ l : List Ros.Sl, Ros.maskSt r l < 256 := by
  intro l
  unfold Ros.maskSt
  suffices h : ∀ (l : List Ros.Sl) (m : Nat), m < 256 → l.foldl (Ros.maskStep r) m < 256 from h l 0 (by decide)
  intro l
  induction l with
  | nil => exact fun m hm => hm
  | cons x l ih =>
    intro m hm
    refine ih _ ?_
    unfold Ros.maskStep
    split
    · exact hm
    · have hx : 2 ^ x.1 < 2 ^ 8 := Nat.pow_lt_pow_right (by omega) x.2
      exact Nat.or_lt_two_pow (n := 8) hm hx

/-- What Free knows on its way. -/
structure Freeing (B Bg Bf Bl : Nat) (w0 : World) (r : Ros.R) (st : Int × Int) (W : World) : Prop where
  sit : Sit B Bg w0 r W
  fr : Box W Bf 3 #[.int .i64 st.1]
  le : Box W Bl 3 #[.int .i64 st.2]
section
variable {B Bg Bf Bl : Nat} {w0 W W' : World} {r : Ros.R} {st : Int × Int}
theorem Freeing.turned {row : Option Nat} (h : Freeing B Bg Bf Bl w0 r st W) (hg : W.grownBy W' row) (hr : ∀ r, row = some r → w0.heap.size ≤ r ∧ ∃ o : Obj, W.heap[r]? = some o ∧ o.isCells = false) : Freeing B Bg Bf Bl w0 r st W' :=
  ⟨h.sit.turned hg hr, h.fr.turned hg fun r e => (hr r e).2, h.le.turned hg fun r e => (hr r e).2⟩
theorem Freeing.call (h : Freeing B Bg Bf Bl w0 r st W) (hb : Below W.heap.size W W') : Freeing B Bg Bf Bl w0 r st W' :=
  ⟨h.sit.call hb, h.fr.below hb h.fr.lt, h.le.below hb h.le.lt⟩
theorem Freeing.drew (h : Freeing B Bg Bf Bl w0 r st W) : Freeing B Bg Bf Bl w0 r st W.drew := ⟨h.sit.drew, h.fr.drew, h.le.drew⟩
theorem Freeing.putf (h : Freeing B Bg Bf Bl w0 r st W) (hl : w0.heap.size ≤ Bf) (hne : Bf ≠ Bl) (u : Int) : Freeing B Bg Bf Bl w0 r (u, st.2) (W.setCell ⟨Bf, 0, none⟩ (.int .i64 u)) :=
  ⟨h.sit.far (p := ⟨Bf, 0, none⟩) h.fr (by decide) (by decide) hl, h.fr.put 0 _, h.le.far (fun e => hne e.symm) _⟩
theorem Freeing.putl (h : Freeing B Bg Bf Bl w0 r st W) (hl : w0.heap.size ≤ Bl) (hne : Bf ≠ Bl) (u : Int) : Freeing B Bg Bf Bl w0 r (st.1, u) (W.setCell ⟨Bl, 0, none⟩ (.int .i64 u)) :=
  ⟨h.sit.far (p := ⟨Bl, 0, none⟩) h.le (by decide) (by decide) hl, h.fr.far (fun e => hne e) _, h.le.put 0 _⟩
end

set_option maxRecDepth 100000 in
set_option maxHeartbeats 4000000 in
theorem rosfree_any (r : Ros.R) (w : World) :
    Calls Try.prog 39 #[.agg (Ros.cells r)] w fun e w' => e = .returned (.int .i64 (Ros.free r)) ∧ Below w.heap.size w w' := by
  have cm := fun X => Lib.hid (rosmay_any r X)
  have P0 := Lib.hid (Box.made w 51 (Ros.cells r))
  have PB := Lib.hid (one_below w (.cells (Ros.cells r) 51))
  have hfree : Hid (Ros.free r = if Ros.Ok r then (Ros.freeSt r Ros.all8).1 else -1) := Lib.hid rfl
  by_cases hok : Ros.Ok r
  · have hmay : Ros.may r = true := decide_eq_true hok
    rw [hmay] at cm
    have HIF := Lib.hid (hfree.out.trans (if_pos hok))
    clear hfree hok hmay
    refine (callsIn_wide (n := 10)).1 (callsIn_of_wp_marks Try.func39 rfl trivial (wpIn_wide.2 ?_) rfl)
    simp only [Try.ntmps39, List.size_toArray, List.length_cons, List.length_nil, Nat.reduceAdd, Nat.reduceSub, Array.replicate_succ, Array.replicate_zero, List.push_toArray, List.append_toArray, List.nil_append, List.cons_append]
    go_upto_block 0 with (first | ((with_reducible refine ros_load rfl rfl ?_); apply LoadRow.mk rfl; (focus (with_reducible exact P0.out)); (focus (exact ros_info))) | (go_at_call 42; ((with_reducible refine ((cm _).out).mono ?_); rintro e w1 ⟨rfl, hb1⟩; have Q0 := Lib.hid (P0.out.below hb1 P0.out.lt); have QB := Lib.hid (PB.out.trans (hb1.mono PB.out.size)); clear hb1)) | (go_at_call 85; ((with_reducible refine (seats_any _ _).mono ?_); rintro e w3 ⟨rfl, rfl⟩)))
    have M0 : Freeing w.heap.size (w1.heap.size + 1 + 1) w1.heap.size (w1.heap.size + 1) w r (Ros.freeSt r []) (((w1.alloc (.cells #[.int .i64 (-1)] 3)).alloc (.cells #[.int .i64 60000] 3)).alloc (.cells #[.pointer (some ⟨w.heap.size, 0, none⟩)] 128)) :=
      ⟨⟨((Q0.out.alloc _).alloc _).alloc _, Box.made_at _ _ _ (by simp), ((QB.out.alloc QB.out.size _).alloc (Nat.le_trans QB.out.size (by simp)) _).alloc (Nat.le_trans QB.out.size (by simp <;> omega)) _⟩, ((Box.made w1 _ _).alloc _).alloc _, (Box.made_at _ _ _ (by simp)).alloc _⟩
    have sz := QB.out.size
    generalize hW0 : (((w1.alloc (.cells #[.int .i64 (-1)] 3)).alloc (.cells #[.int .i64 60000] 3)).alloc (.cells #[.pointer (some ⟨w.heap.size, 0, none⟩)] 128)) = W0 at M0 ⊢
    generalize w1.heap.size = Bf at *
    have MM0 := Lib.hid M0
    have hs0 : Sitting w.heap.size (Bf + 1 + 1) W0 := M0.sit.sit.cell 0
    clear hW0 M0 P0 PB Q0 QB cm
    refine (wpIn_wide (n := 10)).1 ?_
    refine wpIn_block ?_
    refine' wpIn_rangeFunc_ownF (n := 10) (w := W0) rfl (by omega) (gf := 122) (lb := #[.pointer (some ⟨Bf + 1 + 1, 0, none⟩)]) rfl trivial (enters_of Try.func122 (by kernel_rfl) rfl)
      (seats1_stops (w.heap.size) (Bf + 1 + 1) _ W0 hs0) sitkp_t (sitkp_b (n := W0.heap.size)) (Below.refl _ _) (fun _ => rfl)
      (fun pre W => Freeing w.heap.size (Bf + 1 + 1) Bf (Bf + 1) w r (Ros.freeSt r pre) W)
      (fun c pre W => False)
      (fun pre W W' row h hgr hr => h.turned hgr (fun r e => ⟨Nat.le_trans MM0.out.sit.below.size (hr r e).1, (hr r e).2⟩))
      (fun c pre W W' row h hgr hr => h)
      MM0.out _ ?assign ?body ?done ?stop
    case assign =>
      intro l x W K hK
      gi_wp2
      exact hK
    case body =>
      rintro l pre ⟨k, hk⟩ V hM hlen
      dsimp only
      have hk8 : (k : Int) < 8 := by omega
      have hsn := Ros.freeSt_snoc r pre ⟨k, hk⟩
      obtain ⟨st, hst⟩ : ∃ st, st = Ros.freeSt r pre := ⟨_, rfl⟩
      rw [← hst] at hM hsn
      obtain ⟨fr, le⟩ := st
      have y0 := Ros.cells_peer r k hk
      have y1 := Ros.cells_gen r k hk
      have z0 : ∀ q : Ext V.heap.size V, q.w.cell? ⟨w.heap.size, 1 + k * 2, none⟩ = some (.int .i64 (r.peer k)) := fun q => q.cell hM.sit.ros.lt ((hM.sit.ros.cell _).trans y0)
      have z1 : ∀ q : Ext V.heap.size V, q.w.cell? ⟨w.heap.size, 1 + k * 2 + 1, none⟩ = some (.int .i64 (r.gen k)) := fun q => q.cell hM.sit.ros.lt ((hM.sit.ros.cell _).trans y1)
      have z2 : ∀ q : Ext V.heap.size V, q.w.cell? ⟨Bf + 1, 0, none⟩ = some (.int .i64 le) := fun q => q.cell hM.le.lt (hM.le.cell 0)
      have hstep : Ros.freeStep r (fr, le) ⟨k, hk⟩ = if r.peer k = -1 ∧ r.gen k < le then ((k : Int), r.gen k) else (fr, le) := rfl
      rw [hstep] at hsn
      clear hstep
      obtain ⟨pk, hpk⟩ : ∃ pk, r.peer k = pk := ⟨_, rfl⟩
      obtain ⟨gk, hgk⟩ : ∃ gk, r.gen k = gk := ⟨_, rfl⟩
      rw [hpk] at z0 hsn
      rw [hgk] at z1 hsn y1
      have HM := Lib.hid hM
      have Y1 := Lib.hid y1
      clear hM hpk hgk y0 y1 hlen hst
      refine wpIn_block ?_
      refine wpIn_seq_k ?_
      intro K hK
      by_cases hp : pk = -1
      · subst hp
        by_cases hg : gk < le
        · have hlt : decide (gk < le) = true := decide_eq_true hg
          rw [if_pos ⟨rfl, hg⟩] at hsn
          have HSN := Lib.hid hsn
          clear hsn hg
          refine Rt.region_ext V.heap.size V (by kernel_rfl) (by kernel_rfl) (by kernel_rfl) (by rintro ⟨_, _, h⟩; exact h) (Below.refl _ _) ?_
          repeat (go_big_quiet_step (fail))
          refine wpQuiet_nil ?_
          intro _ hw'
          obtain ⟨q, hw''⟩ := hw'
          subst hw''
          refine hK _ _ ?_
          have hM2 := HM.out.call q.h
          refine wpIn_cond_true rfl ?_
          refine Rt.region_lex (by kernel_rfl) (by kernel_rfl) [2, 4] (by kernel_rfl) (by rintro ⟨_, _, h⟩; exact h)
            (fun Z => Freeing w.heap.size (Bf + 1 + 1) Bf (Bf + 1) w r (fr, le) Z ∧ KeepsOthers V Z) (fun _ => True) (fun Z => Box Z w.heap.size 51 (Ros.cells r)) ⟨hM2.drew, (below_others q.h).trans (KeepsOthers.drew _)⟩ (fun Z hZ => ⟨trivial, hZ.1.sit.ros⟩) ?_
          repeat (first
            | (apply Rp.lex_free rfl rfl; focus (intro _; go_simp; first | done | rfl))
            | (apply Rp.lex_steady rfl rfl rfl rfl; focus (intro Z hZ; have u1 := (hZ.cell (1 + k * 2 + 1)).trans Y1.out; clear hZ; go_simp; first | done | rfl)))
          refine Rp.lex_store rfl rfl (C' := fun Z => Freeing w.heap.size (Bf + 1 + 1) Bf (Bf + 1) w r ((k : Int), le) Z ∧ KeepsOthers V Z) (D' := fun _ => True) (fun Z hZ => ⟨_, ?_, hZ.1.putf sz (by omega) (k : Int), hZ.2.trans (KeepsOthers.setCell _ _ _)⟩) (fun Z hZ => ⟨trivial, hZ.1.sit.ros⟩) ?_
          focus
            have u1 := hZ.1.fr.cell
            have u2 := hZ.1.fr.free
            clear hZ
            go_simp
            first | done | rfl
          repeat (first
            | (apply Rp.lex_free rfl rfl; focus (intro _; go_simp; first | done | rfl))
            | (apply Rp.lex_look rfl rfl rfl rfl; focus (intro Z hZ; have u1 := (hZ.cell (1 + k * 2 + 1)).trans Y1.out; clear hZ; go_simp; first | done | rfl)))
          refine Rp.lex_store rfl rfl (C' := fun Z => Freeing w.heap.size (Bf + 1 + 1) Bf (Bf + 1) w r ((k : Int), gk) Z ∧ KeepsOthers V Z) (D' := fun _ => True) (fun Z hZ => ⟨_, ?_, hZ.1.putl (by omega) (by omega) gk, hZ.2.trans (KeepsOthers.setCell _ _ _)⟩) (fun Z hZ => ⟨trivial, hZ.1.sit.ros⟩) ?_
          focus
            have u1 := hZ.1.le.cell
            have u2 := hZ.1.le.free
            clear hZ
            go_simp
            first | done | rfl
          refine Rp.lex_end fun Z hZ => ?_
          refine ⟨hZ.2, fun _ => hZ.1.sit.sit.cell 0, ?_⟩
          show Freeing _ _ _ _ _ _ (Ros.freeSt r (pre ++ [⟨k, hk⟩])) Z
          rw [HSN.out]
          exact hZ.1
        · have hlt : decide (gk < le) = false := decide_eq_false hg
          rw [if_neg (fun h => hg h.2)] at hsn
          have HSN := Lib.hid hsn
          clear hsn hg
          refine Rt.region_ext V.heap.size V (by kernel_rfl) (by kernel_rfl) (by kernel_rfl) (by rintro ⟨_, _, h⟩; exact h) (Below.refl _ _) ?_
          repeat (go_big_quiet_step (fail))
          refine wpQuiet_nil ?_
          intro _ hw'
          obtain ⟨q, hw''⟩ := hw'
          subst hw''
          refine hK _ _ ?_
          gi_wp2
          refine ⟨below_others q.h, fun hf => hf.below q.h, ?_⟩
          show Freeing _ _ _ _ _ _ (Ros.freeSt r (pre ++ [⟨k, hk⟩])) q.w
          rw [HSN.out]
          exact HM.out.call q.h
      · have hb : (pk == -1) = false := by simpa using hp
        rw [if_neg (fun h => hp h.1)] at hsn
        have HSN := Lib.hid hsn
        clear hsn
        refine Rt.region_ext V.heap.size V (by kernel_rfl) (by kernel_rfl) (by kernel_rfl) (by rintro ⟨_, _, h⟩; exact h) (Below.refl _ _) ?_
        repeat (go_big_quiet_step (fail))
        refine wpQuiet_nil ?_
        intro _ hw'
        obtain ⟨q, hw''⟩ := hw'
        subst hw''
        refine hK _ _ ?_
        gi_wp2
        refine ⟨below_others q.h, fun hf => hf.below q.h, ?_⟩
        show Freeing _ _ _ _ _ _ (Ros.freeSt r (pre ++ [⟨k, hk⟩])) q.w
        rw [HSN.out]
        exact HM.out.call q.h
    case done =>
      rintro D xs V hD rfl hM hK
      have hDw : w.heap.size ≤ D := Nat.le_trans MM0.out.sit.below.size hD
      have hyes : Hid (Ros.free r = (Ros.freeSt r Ros.all8).1) := HIF
      have hT2 := Lib.hid (Below.turned hM.sit.below (Nat.le_refl _) (grownBy_putObj' _ D (.deferred none)) (fun r e => by cases e; exact hDw))
      have u4 := hM.fr.cell
      have HK := Lib.hid hK
      generalize (Ros.freeSt r Ros.all8).1 = F at *
      clear hM hK
      go_wp2
      refine ⟨by simp, .inl ⟨_, _, rfl, run_takeDeferred HK.out, ?_⟩⟩
      refine ⟨.int .i64 F, ?_, by rw [hyes.out], hT2.out⟩
      simp [results, Try.f39, go_sem]
    case stop =>
      rintro D c' pre V hD _ hf hK
      exact hf.elim

  · have hmay : Ros.may r = false := decide_eq_false hok
    rw [hmay] at cm
    have HIF := Lib.hid (hfree.out.trans (if_neg hok))
    clear hfree hok hmay
    go_enter Try.func39, Try.ntmps39
    go_wp2_with (first | ((with_reducible refine ros_load rfl rfl ?_); apply LoadRow.mk rfl; (focus (with_reducible exact P0.out)); (focus (exact ros_info))) | (go_at_call 42; ((with_reducible refine ((cm _).out).mono ?_); rintro e w1 ⟨rfl, hb1⟩; have Q0 := Lib.hid (P0.out.below hb1 P0.out.lt); have QB := Lib.hid (PB.out.trans (hb1.mono PB.out.size)); clear hb1)))
    go_ret
    exact ⟨by rw [HIF.out]; rfl, QB.out⟩

/-- What Mask knows on its way. -/
structure Masking (B Bg Bm : Nat) (w0 : World) (r : Ros.R) (m : Nat) (W : World) : Prop where
  sit : Sit B Bg w0 r W
  bits : Box W Bm 3 #[.int .i64 (m : Int)]
section
variable {B Bg Bm m : Nat} {w0 W W' : World} {r : Ros.R}
theorem Masking.turned {row : Option Nat} (h : Masking B Bg Bm w0 r m W) (hg : W.grownBy W' row) (hr : ∀ r, row = some r → w0.heap.size ≤ r ∧ ∃ o : Obj, W.heap[r]? = some o ∧ o.isCells = false) : Masking B Bg Bm w0 r m W' :=
  ⟨h.sit.turned hg hr, h.bits.turned hg fun r e => (hr r e).2⟩
theorem Masking.drew (h : Masking B Bg Bm w0 r m W) : Masking B Bg Bm w0 r m W.drew := ⟨h.sit.drew, h.bits.drew⟩
theorem Masking.put (h : Masking B Bg Bm w0 r m W) (hl : w0.heap.size ≤ Bm) (n : Nat) : Masking B Bg Bm w0 r n (W.setCell ⟨Bm, 0, none⟩ (.int .i64 (n : Int))) :=
  ⟨h.sit.far (p := ⟨Bm, 0, none⟩) h.bits (by decide) (by decide) hl, h.bits.put 0 _⟩
end

set_option maxRecDepth 100000 in
set_option maxHeartbeats 4000000 in
theorem rosmask_any (r : Ros.R) (w : World) :
    Calls Try.prog 44 #[.agg (Ros.cells r)] w fun e w' => e = .returned (.int .i64 (Ros.mask r)) ∧ Below w.heap.size w w' := by
  have cm := fun X => Lib.hid (rosmay_any r X)
  have P0 := Lib.hid (Box.made w 51 (Ros.cells r))
  have PB := Lib.hid (one_below w (.cells (Ros.cells r) 51))
  have hfree : Hid (Ros.mask r = if Ros.Ok r then Ros.maskSt r Ros.all8 else 0) := Lib.hid rfl
  by_cases hok : Ros.Ok r
  · have hmay : Ros.may r = true := decide_eq_true hok
    rw [hmay] at cm
    have HIF := Lib.hid (hfree.out.trans (if_pos hok))
    clear hfree hok hmay
    refine (callsIn_wide (n := 10)).1 (callsIn_of_wp_marks Try.func44 rfl trivial (wpIn_wide.2 ?_) rfl)
    simp only [Try.ntmps44, List.size_toArray, List.length_cons, List.length_nil, Nat.reduceAdd, Nat.reduceSub, Array.replicate_succ, Array.replicate_zero, List.push_toArray, List.append_toArray, List.nil_append, List.cons_append]
    go_upto_block 0 with (first | ((with_reducible refine ros_load rfl rfl ?_); apply LoadRow.mk rfl; (focus (with_reducible exact P0.out)); (focus (exact ros_info))) | (go_at_call 42; ((with_reducible refine ((cm _).out).mono ?_); rintro e w1 ⟨rfl, hb1⟩; have Q0 := Lib.hid (P0.out.below hb1 P0.out.lt); have QB := Lib.hid (PB.out.trans (hb1.mono PB.out.size)); clear hb1)) | (go_at_call 85; ((with_reducible refine (seats_any _ _).mono ?_); rintro e w3 ⟨rfl, rfl⟩)))
    have M0 : Masking w.heap.size (w1.heap.size + 1) w1.heap.size w r (Ros.maskSt r []) ((w1.alloc (.cells #[.int .i64 0] 3)).alloc (.cells #[.pointer (some ⟨w.heap.size, 0, none⟩)] 128)) :=
      ⟨⟨(Q0.out.alloc _).alloc _, Box.made_at _ _ _ (by simp), (QB.out.alloc QB.out.size _).alloc (Nat.le_trans QB.out.size (by simp)) _⟩, (Box.made w1 _ _).alloc _⟩
    have sz := QB.out.size
    generalize hW0 : ((w1.alloc (.cells #[.int .i64 0] 3)).alloc (.cells #[.pointer (some ⟨w.heap.size, 0, none⟩)] 128)) = W0 at M0 ⊢
    generalize w1.heap.size = Bm at *
    have MM0 := Lib.hid M0
    have hs0 : Sitting w.heap.size (Bm + 1) W0 := M0.sit.sit.cell 0
    clear hW0 M0 P0 PB Q0 QB cm
    refine (wpIn_wide (n := 10)).1 ?_
    refine wpIn_block ?_
    refine' wpIn_rangeFunc_ownF (n := 10) (w := W0) rfl (by omega) (gf := 122) (lb := #[.pointer (some ⟨Bm + 1, 0, none⟩)]) rfl trivial (enters_of Try.func122 (by kernel_rfl) rfl)
      (seats1_stops (w.heap.size) (Bm + 1) _ W0 hs0) sitkp_t (sitkp_b (n := W0.heap.size)) (Below.refl _ _) (fun _ => rfl)
      (fun pre W => Masking w.heap.size (Bm + 1) Bm w r (Ros.maskSt r pre) W)
      (fun c pre W => False)
      (fun pre W W' row h hgr hr => h.turned hgr (fun r e => ⟨Nat.le_trans MM0.out.sit.below.size (hr r e).1, (hr r e).2⟩))
      (fun c pre W W' row h hgr hr => h)
      MM0.out _ ?assign ?body ?done ?stop
    case assign =>
      intro l x W K hK
      gi_wp2
      exact hK
    case body =>
      rintro l pre ⟨k, hk⟩ V hM hlen
      dsimp only
      have hk8 : (k : Int) < 8 := by omega
      have hsn := Ros.maskSt_snoc r pre ⟨k, hk⟩
      have hbd := Ros.mask_bd r pre
      obtain ⟨m, hst⟩ : ∃ m, m = Ros.maskSt r pre := ⟨_, rfl⟩
      rw [← hst] at hM hsn hbd
      have y0 := Ros.cells_peer r k hk
      have z0 := (hM.sit.ros.cell _).trans y0
      have hstep : Ros.maskStep r m ⟨k, hk⟩ = if r.peer k = -1 then m else m ||| 2 ^ k := rfl
      rw [hstep] at hsn
      clear hstep
      obtain ⟨pk, hpk⟩ : ∃ pk, r.peer k = pk := ⟨_, rfl⟩
      rw [hpk] at z0 hsn
      have hor := orr_nat m (2 ^ k) (by omega) (by have : 2 ^ k < 2 ^ 8 := Nat.pow_lt_pow_right (by omega) hk; omega)
      have hsh := shl_one k hk
      have HM := Lib.hid hM
      clear hM hpk y0 hlen hst hbd
      by_cases hp : pk = -1
      · subst hp
        rw [if_pos rfl] at hsn
        have HSN := Lib.hid hsn
        clear hsn hor hsh
        gi_wp2
        refine ⟨KeepsOthers.refl _, fun hf => hf, ?_⟩
        show Masking _ _ _ _ _ (Ros.maskSt r (pre ++ [⟨k, hk⟩])) _
        rw [HSN.out]
        exact HM.out
      · have hb : (pk != -1) = true := by simpa using hp
        rw [if_neg hp] at hsn
        have HSN := Lib.hid hsn
        clear hsn
        gi_wp2
        rw [← hsh] at hor
        have HOR := Lib.hid hor
        clear hor hsh
        refine Rt.region_lex (by kernel_rfl) (by kernel_rfl) [] (by kernel_rfl) (by rintro ⟨_, _, h⟩; exact h)
          (fun Z => Masking w.heap.size (Bm + 1) Bm w r m Z ∧ KeepsOthers V Z) (fun Z => Box Z Bm 3 #[.int .i64 (m : Int)]) (fun _ => True) ⟨HM.out.drew, KeepsOthers.drew _⟩ (fun Z hZ => ⟨hZ.1.bits, trivial⟩) ?_
        repeat (first
          | (apply Rp.lex_free rfl rfl; focus (intro _; go_simp; first | done | rfl))
          | (apply Rp.lex_look rfl rfl rfl rfl; focus (intro Z hZ; have u1 := hZ.cell; clear hZ; go_simp; first | done | rfl)))
        refine Rp.lex_store rfl rfl (C' := fun Z => Masking w.heap.size (Bm + 1) Bm w r (m ||| 2 ^ k) Z ∧ KeepsOthers V Z) (D' := fun _ => True) (fun Z hZ => ⟨_, ?_, hZ.1.put sz (m ||| 2 ^ k), hZ.2.trans (KeepsOthers.setCell _ _ _)⟩) (fun Z hZ => ⟨trivial, trivial⟩) ?_
        focus
          have u1 := hZ.1.bits.cell
          have u2 := hZ.1.bits.free
          clear hZ
          rw [← HOR.out]
          go_simp
          first | done | rfl
        refine Rp.lex_end fun Z hZ => ?_
        refine ⟨hZ.2, fun _ => hZ.1.sit.sit.cell 0, ?_⟩
        show Masking _ _ _ _ _ (Ros.maskSt r (pre ++ [⟨k, hk⟩])) Z
        rw [HSN.out]
        exact hZ.1
    case done =>
      rintro D xs V hD rfl hM hK
      have hDw : w.heap.size ≤ D := Nat.le_trans MM0.out.sit.below.size hD
      have hT2 := Lib.hid (Below.turned hM.sit.below (Nat.le_refl _) (grownBy_putObj' _ D (.deferred none)) (fun r e => by cases e; exact hDw))
      have u4 := hM.bits.cell
      have HK := Lib.hid hK
      generalize Ros.maskSt r Ros.all8 = F at *
      clear hM hK
      go_wp2
      refine ⟨by simp, .inl ⟨_, _, rfl, run_takeDeferred HK.out, ?_⟩⟩
      refine ⟨.int .i64 F, ?_, by rw [HIF.out], hT2.out⟩
      simp [results, Try.f44, go_sem]
    case stop =>
      rintro D c' pre V hD _ hf hK
      exact hf.elim

  · have hmay : Ros.may r = false := decide_eq_false hok
    rw [hmay] at cm
    have HIF := Lib.hid (hfree.out.trans (if_neg hok))
    clear hfree hok hmay
    go_enter Try.func44, Try.ntmps44
    go_wp2_with (first | ((with_reducible refine ros_load rfl rfl ?_); apply LoadRow.mk rfl; (focus (with_reducible exact P0.out)); (focus (exact ros_info))) | (go_at_call 42; ((with_reducible refine ((cm _).out).mono ?_); rintro e w1 ⟨rfl, hb1⟩; have Q0 := Lib.hid (P0.out.below hb1 P0.out.lt); have QB := Lib.hid (PB.out.trans (hb1.mono PB.out.size)); clear hb1)))
    go_ret
    exact ⟨by rw [HIF.out]; rfl, QB.out⟩
end Go.Proofs.Ytbpipkcdbcfenaa
