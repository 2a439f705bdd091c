/-
GameMay's walk.
-/
import Derived.Test.YtpmdmpkoejaibaaLd
import Derived.Test.YtpmdmpkoejaibaaPl
import Derived.Outline
import Derived.Deep.QuietTactic
import Derived.BigQuiet
import Derived.Deep.CutRange
import Derived.Deep.CutBlock
import Derived.Deep.DeepCutAuto
namespace Go.Proofs.Ytpmdmpkoejaibaa
open Go.RowKit Go.Shelf
set_option linter.unusedVariables false

/-- What stays from frame to frame. -/
structure MayAt (BG : Nat) (w0 : World) (m : Int) (f : Nat) (w : World) : Prop where
  has : ∃ g A c, Gm.Good g ∧ g.frame = f ∧ (∀ j, j < 8 → (g.ship j).on = Gm.bit m j) ∧ Box w BG 30 (Gm.cells g (.slice A g.shots.length c)) ∧ Lies w w.heap.size 6 A g.shots.length (Gm.shotCells g.shots)
  below : Below w0.heap.size w0 w
/-- Two games, one a frame later. -/
structure MayTwo (BG BH : Nat) (w0 : World) (g G : Gm.G) (A1 A2 : Option Addr) (c1 c2 : Nat) (w : World) : Prop where
  g : Box w BG 30 (Gm.cells g (.slice A1 g.shots.length c1))
  h : Box w BH 30 (Gm.cells G (.slice A2 G.shots.length c2))
  l : Lies w w.heap.size 6 A2 G.shots.length (Gm.shotCells G.shots)
  below : Below w0.heap.size w0 w
theorem MayTwo.draws {BG BH : Nat} {w0 w : World} {g G : Gm.G} {A1 A2 : Option Addr} {c1 c2 : Nat} (h : MayTwo BG BH w0 g G A1 A2 c1 c2 w) (n : Nat) : MayTwo BG BH w0 g G A1 A2 c1 c2 (w.drewN n) :=
  ⟨h.g.draws n, h.h.draws n, h.l.call (draws_below (Below.refl _ _) n), draws_below h.below n⟩
/-- The inputs of GameMay's frame f. -/
def mayIns (l : List Gm.In) (f : Nat) : Nat → Gm.In
  | 0 => l.getD f ⟨0, 0, 0⟩
  | 1 => l.getD (l.length - 1 - f) ⟨0, 0, 0⟩
  | 2 => l.getD 0 ⟨0, 0, 0⟩
  | 3 => l.getD f ⟨0, 0, 0⟩
  | 4 => l.getD f ⟨0, 0, 0⟩
  | 5 => l.getD (l.length / 2) ⟨0, 0, 0⟩
  | 6 => l.getD f ⟨0, 0, 0⟩
  | _ => l.getD 0 ⟨0, 0, 0⟩
theorem getD_ty {l : List Gm.In} (h : ∀ x ∈ l, Gm.tyIn x) (k : Nat) : Gm.tyIn (l.getD k ⟨0, 0, 0⟩) := by
  by_cases hk : k < l.length
  · rw [List.getD_eq_getElem?_getD, List.getElem?_eq_getElem hk]; exact h _ (List.getElem_mem hk)
  · rw [List.getD_eq_getElem?_getD, List.getElem?_eq_none (by omega)]; exact ⟨by decide, by decide, by decide⟩
theorem mayIns_ty {l : List Gm.In} (h : ∀ x ∈ l, Gm.tyIn x) (f i : Nat) : Gm.tyIn (mayIns l f i) := by
  unfold mayIns; split <;> exact getD_ty h _
/-- An input's cells, by its place. -/
theorem ins_at' {w : World} {B : Nat} {ad : Addr} {l : List Gm.In} (h : Lies w B 3 (some ad) l.length (Gm.inCells l)) (k : Nat) (hk : k < l.length) :
    w.cell? (ad.add (k * 3)) = some (.int .i8 (l.getD k ⟨0, 0, 0⟩).x) ∧ w.cell? ⟨(ad.add (k * 3)).block, (ad.add (k * 3)).off + 1, none⟩ = some (.int .i8 (l.getD k ⟨0, 0, 0⟩).y) ∧
      w.cell? ⟨(ad.add (k * 3)).block, (ad.add (k * 3)).off + 2, none⟩ = some (.int .u8 (l.getD k ⟨0, 0, 0⟩).b) := by
  have e : l.getD k ⟨0, 0, 0⟩ = l[k] := by rw [List.getD_eq_getElem?_getD, List.getElem?_eq_getElem hk]; rfl
  rw [e]; exact ins_at h rfl k hk

set_option maxRecDepth 100000 in
set_option maxHeartbeats 2000000 in
theorem may_big (s : ByteArray) (m : Int) (A : Option Addr) (n c : Nat) (w : World) (hs : s.size ≤ maxLen) (hn : n ≤ maxLen) (hbig : 20 < s.size ∨ 100 < n) :
    Calls Try.prog 4 #[.string s, .int .i64 m, .slice A n c] w fun e w' => e = .returned (.bool true) ∧ Kept w w' := by
  have ct := fun X => Lib.hid (told6_any X)
  by_cases h : 20 < s.size
  · have h1 : (20 : Int) < s.size := by omega
    go_enter Try.func4, Try.ntmps4
    go_wp2_with (first | (go_at_call 14; ((with_reducible refine ((ct _).out).mono ?_); rintro e w1 ⟨rfl, hb⟩)))
    go_ret
    exact ⟨rfl, hb⟩
  · have h1 : ¬ (20 : Int) < s.size := by omega
    have h2 : (100 : Int) < n := by omega
    go_enter Try.func4, Try.ntmps4
    go_wp2_with (first | (go_at_call 14; ((with_reducible refine ((ct _).out).mono ?_); rintro e w1 ⟨rfl, hb⟩)))
    go_ret
    exact ⟨rfl, hb⟩

set_option maxRecDepth 100000 in
set_option maxHeartbeats 8000000 in
theorem may_small (s : ByteArray) (m : Int) (A : Option Addr) (c n : Nat) (l : List Gm.In) (w : World) (hs : s.size ≤ 20) (hnl : n = l.length) (hn : n ≤ 100) (hl : ∀ x ∈ l, Gm.tyIn x) (hL : Lies w w.heap.size 3 A n (Gm.inCells l)) :
    Calls Try.prog 4 #[.string s, .int .i64 m, .slice A n c] w fun e w' => e = .returned (.bool true) ∧ Kept w w' := by
  have h1 : ¬ (20 : Int) < s.size := by omega
  have h2 : ¬ (100 : Int) < n := by omega
  have ct := fun X => Lib.hid (told6_any X)
  have hd : 0 ≤ Dn.seed s.data.toList ∧ Dn.seed s.data.toList ≤ 18446744073709551615 := Dn.seed_bd _
  have cp := Lib.hid (play_any s m (by unfold maxLen; omega) w)
  have fr := Gm.fresh_to m (Dn.seed s.data.toList) hd 8 (by omega)
  generalize Dn.seed s.data.toList = d at *
  obtain ⟨g0, hg0⟩ : ∃ g, g = Gm.spawnTo m (Gm.new d) 8 := ⟨_, rfl⟩
  rw [← hg0] at cp fr
  have FR := Lib.hid fr
  have HL := Lib.hid hL
  have HT := Lib.hid hl
  have NL := Lib.hid hnl
  clear hg0 hd fr hL hl hs hnl
  go_enter Try.func4, Try.ntmps4
  go_wp2_with (first | ((with_reducible refine wpList_alloc_game rfl rfl ?_)) | ((with_reducible refine wpList_store_game_new rfl rfl rfl rfl rfl rfl ?_)) | (go_at_call 22; ((with_reducible refine (cp.out).mono ?_); rintro e w1 ⟨A0, c0, rfl, hb⟩; have HB1 := Lib.hid (hb.alloc hb.size (.cells (Gm.cells g0 (.slice A0 0 c0)) 30)); have P1 := Lib.hid (Box.made w1 30 (Gm.cells g0 (.slice A0 0 c0))); have sz1 := hb.size; clear hb)))
  generalize hW1 : w1.alloc (.cells (Gm.cells g0 (.slice A0 0 c0)) 30) = V at *
  generalize w1.heap.size = BG at *
  clear hW1 cp
  go_loopw [9, 10, 11, 12] (fun i h e s wr => ∃ f : Nat, f ≤ n ∧ i = .int .i64 f ∧ MayAt BG w m f wr) (fun i _ _ _ _ => n - (intOf i).toNat)
  case atStart => exact ⟨0, Nat.zero_le _, rfl, ⟨⟨g0, A0, c0, ⟨FR.out.ok, FR.out.dice⟩, FR.out.frame, fun j hj => by rw [FR.out.on j]; simp [hj], by rw [FR.out.shots]; exact P1.out, by rw [FR.out.shots]; exact Lies.empty⟩, HB1.out⟩⟩
  case round =>
    obtain ⟨f, hf, rfl, hS⟩ := hrel
    obtain ⟨⟨g, A1, c1, hgood, hfr, hon, hX, hLs⟩, hY⟩ := hS
    clear P1 HB1 FR
    by_cases hlt : f < n
    · have hf8 : (f : Int) < n := by omega
      obtain ⟨ad, rfl, hadl⟩ := HL.out.start (by omega)
      have nb := NL.out
      have cs := fun X (hX : Below wr.heap.size wr X) => Lib.hid (step_yes (mayIns l f) g A1 _ c1 X hgood.ok (by omega) hgood.dice (fun i _ => mayIns_ty HT.out f i) rfl (hLs.call hX))
      have good' := Gm.step_good (ps := mayIns l f) hgood (by omega)
      obtain ⟨G, hG⟩ : ∃ G, G = Gm.step (mayIns l f) g := ⟨_, rfl⟩
      simp only [← hG] at cs good'
      clear hG
      have hq : ((n : Int)).tdiv 2 = ((n / 2 : Nat) : Int) := by rw [Int.tdiv_eq_ediv_of_nonneg (by omega)]; omega
      have hm1 : IntKind.i64.wrap ((n : Int) - 1) = (n : Int) - 1 := by rw [IntKind.wrap_i64]; omega
      have hm2 : IntKind.i64.wrap ((n : Int) - 1 - f) = ((n - 1 - f : Nat) : Int) := by rw [IntKind.wrap_i64]; omega
      have hm3 : ((n : Int) - 1 - f) = ((n - 1 - f : Nat) : Int) := by omega
      have cell : ∀ X, Below wr.heap.size wr X → ∀ k, k < n → X.cell? (ad.add (k * 3)) = some (.int .i8 (l.getD k ⟨0, 0, 0⟩).x) ∧ X.cell? ⟨(ad.add (k * 3)).block, (ad.add (k * 3)).off + 1, none⟩ = some (.int .i8 (l.getD k ⟨0, 0, 0⟩).y) ∧
          X.cell? ⟨(ad.add (k * 3)).block, (ad.add (k * 3)).off + 2, none⟩ = some (.int .u8 (l.getD k ⟨0, 0, 0⟩).b) := fun X hX k hk => by
        have hb := hY.trans (hX.mono hY.size)
        have hL2 := HL.out.below hb
        rw [nb] at hL2 hk
        exact ins_at' hL2 k hk
      have cf := fun X hX => cell X hX f hlt
      have cm := fun X hX => cell X hX (n - 1 - f) (by omega)
      have cq := fun X hX => cell X hX (n / 2) (by omega)
      have cz := fun X hX => cell X hX 0 (by omega)
      simp only [show ad.add (0 * 3) = ad from rfl] at cz
      have cs' : ∀ X, Below wr.heap.size wr X → Calls Try.prog 19 #[.agg (Gm.cells g (.slice A1 g.shots.length c1)), .agg #[.int .i8 (l.getD f ⟨0, 0, 0⟩).x, .int .i8 (l.getD f ⟨0, 0, 0⟩).y, .int .u8 (l.getD f ⟨0, 0, 0⟩).b, .int .i8 (l.getD (l.length - 1 - f) ⟨0, 0, 0⟩).x, .int .i8 (l.getD (l.length - 1 - f) ⟨0, 0, 0⟩).y, .int .u8 (l.getD (l.length - 1 - f) ⟨0, 0, 0⟩).b, .int .i8 (l.getD 0 ⟨0, 0, 0⟩).x, .int .i8 (l.getD 0 ⟨0, 0, 0⟩).y, .int .u8 (l.getD 0 ⟨0, 0, 0⟩).b, .int .i8 (l.getD f ⟨0, 0, 0⟩).x, .int .i8 (l.getD f ⟨0, 0, 0⟩).y, .int .u8 (l.getD f ⟨0, 0, 0⟩).b, .int .i8 (l.getD f ⟨0, 0, 0⟩).x, .int .i8 (l.getD f ⟨0, 0, 0⟩).y, .int .u8 (l.getD f ⟨0, 0, 0⟩).b, .int .i8 (l.getD (l.length / 2) ⟨0, 0, 0⟩).x, .int .i8 (l.getD (l.length / 2) ⟨0, 0, 0⟩).y, .int .u8 (l.getD (l.length / 2) ⟨0, 0, 0⟩).b, .int .i8 (l.getD f ⟨0, 0, 0⟩).x, .int .i8 (l.getD f ⟨0, 0, 0⟩).y, .int .u8 (l.getD f ⟨0, 0, 0⟩).b, .int .i8 (l.getD 0 ⟨0, 0, 0⟩).x, .int .i8 (l.getD 0 ⟨0, 0, 0⟩).y, .int .u8 (l.getD 0 ⟨0, 0, 0⟩).b]] X (Out G 0 X) := fun X hX => (cs X hX).out
      rw [← nb] at cs'
      generalize l.getD f ⟨0, 0, 0⟩ = pf at cf cs'
      generalize l.getD (n - 1 - f) ⟨0, 0, 0⟩ = pm at cm cs'
      generalize l.getD (n / 2) ⟨0, 0, 0⟩ = pq at cq cs'
      generalize l.getD 0 ⟨0, 0, 0⟩ = pz at cz cs'
      have hi1 : ((n - 1 - f : Nat) : Int) < n := by omega
      have hi2 : ((n / 2 : Nat) : Int) < n := by omega
      have hi3 : (0 : Int) < n := by omega
      have hi4 : 0 < n := by omega
      have hbx : ∀ X, Below wr.heap.size wr X → Box X BG 30 (Gm.cells g (.slice A1 g.shots.length c1)) := fun W hW => hX.below hW hX.lt
      have hbx_lt := Lib.hid hX.lt
      have CS := fun X hX => Lib.hid (cs' X hX)
      have CF := Lib.hid cf
      have CM := Lib.hid cm
      have CQ := Lib.hid cq
      have CZ := Lib.hid cz
      have HBX := Lib.hid hbx
      have GG := Lib.hid good'
      have HON := Lib.hid hon
      have HFR := Lib.hid hfr
      have HY := Lib.hid hY
      generalize hmm : n - 1 - f = mm at *
      generalize hqq : n / 2 = qq at *
      have HMM := Lib.hid (And.intro hmm hqq)
      have hwm : IntKind.i64.wrap (mm : Int) = (mm : Int) := by rw [IntKind.wrap_i64]; omega
      have hwq : IntKind.i64.wrap (qq : Int) = (qq : Int) := by rw [IntKind.wrap_i64]; omega
      clear hmm hqq cs cs' cf cm cq cz hbx good' hon hfr hY cell nb hX hLs hgood
      go_upto_region 9 with fail
      refine Rz.wp_region_z (by kernel_rfl) 38 44 (by kernel_rfl) (fun X => Below wr.heap.size wr X) (fun j vm => stepV G 0 wr.heap.size (j - 38) (fun k => vm (38 + k))) ((Below.refl _ _).drew) ?hvd ?_
      case hvd =>
        intro j vm vm' X h1 h2 he hV
        obtain rfl | rfl | rfl | rfl | rfl | rfl : j = 38 ∨ j = 39 ∨ j = 40 ∨ j = 41 ∨ j = 42 ∨ j = 43 := by omega
        · exact stepV_congr hV (by omega) (he 38 (.inl rfl)) (fun h => absurd h (by decide))
        · exact stepV_congr hV (by omega) (he 39 (.inl rfl)) (fun h => absurd h (by decide))
        · exact stepV_congr hV (by omega) (he 40 (.inl rfl)) (fun h => absurd h (by decide))
        · exact stepV_congr hV (by omega) (he 41 (.inl rfl)) (fun h => absurd h (by decide))
        · exact stepV_congr hV (by omega) (he 42 (.inl rfl)) (fun h => absurd h (by decide))
        · exact stepV_congr hV (by omega) (he 43 (.inl rfl)) (fun _ => he 42 (.inr (by kernel_rfl)))
      simp only [List.take_succ_cons, List.take_zero, List.drop_succ_cons, List.drop_zero, Nat.reduceSub]
      repeat (first
        | (apply Rz.head_op; focus (intro W hW; exact exec_load_game rfl rfl (HBX.out W hW)))
        | (apply Rz.head_op; focus (intro W hW; obtain ⟨q0, q1, q2⟩ := CF.out W hW; obtain ⟨q3, q4, q5⟩ := CM.out W hW; obtain ⟨q6, q7, q8⟩ := CQ.out W hW; obtain ⟨q9, qa, qb⟩ := CZ.out W hW; clear hW; go_simp; first | done | rfl)))
      refine Rz.head_split (fun A => A.tmps.size = 137) (by simp only [Rz.put_size]; rfl) ?_ ?_ ?_
      · intro vm X hX hV
        simp only [Rz.putAll]
        clear hV
        refine gives_call (f := 19) (args := #[.agg (Gm.cells g (.slice A1 g.shots.length c1)), .agg #[.int .i8 pf.x, .int .i8 pf.y, .int .u8 pf.b, .int .i8 pm.x, .int .i8 pm.y, .int .u8 pm.b, .int .i8 pz.x, .int .i8 pz.y, .int .u8 pz.b, .int .i8 pf.x, .int .i8 pf.y, .int .u8 pf.b, .int .i8 pf.x, .int .i8 pf.y, .int .u8 pf.b, .int .i8 pq.x, .int .i8 pq.y, .int .u8 pq.b, .int .i8 pf.x, .int .i8 pf.y, .int .u8 pf.b, .int .i8 pz.x, .int .i8 pz.y, .int .u8 pz.b]]) ?_ ((CS X hX).out.mono ?_)
        · go_simp
          first | done | rfl
        · rintro e w' ⟨A2, c2, rfl, hl, hb⟩
          exact ⟨_, rfl, ⟨A2, c2, by simp [Rz.upd], hl⟩, hX.trans (hb.mono hX.size), fun j _ _ _ h => stepV_below h hb⟩
      · intro A hAs
        clear CS CF CM CQ CZ HBX
        refine ⟨?_, ?_, ?_, ?_, ?_, trivial⟩
        · intro vm X hX hV
          obtain ⟨A2, c2, e, hl⟩ := hV 38 (by omega) (by omega) (by kernel_rfl)
          refine gives_val (w' := X) (Rz.exec_move (v := vm 38) rfl ?_) ⟨⟨A2, c2, by simpa [Rz.upd] using e, hl⟩, hX, fun j _ _ _ h => h⟩
          simp only [Rz.putAll]
          rw [Rz.put_none, Rz.put_other (by decide), Rz.put_other (by decide), Rz.put_other (by decide), Rz.put_other (by decide), Rz.put_same (by rw [hAs]; decide)]
        · intro vm X hX hV
          have hv9 := hV 39 (by omega) (by omega) (by kernel_rfl)
          obtain ⟨A2, c2, e, hl⟩ := stepV_1 hv9
          refine gives_val (w' := X) (Rz.exec_extract (v := .agg (Gm.cells G (.slice A2 G.shots.length c2))) (vs := #[.agg (Gm.cells G (.slice A2 G.shots.length c2)), .int .i64 0]) rfl ?_ rfl) ⟨⟨A2, c2, by simp [Rz.upd], hl⟩, hX, fun j _ _ _ h => h⟩
          simp only [Rz.putAll]
          rw [Rz.put_none, Rz.put_other (by decide), Rz.put_other (by decide), Rz.put_other (by decide), Rz.put_same (by simp only [Rz.put_size, hAs]; decide)]
          exact e
        · intro vm X hX hV
          have hv9 := hV 39 (by omega) (by omega) (by kernel_rfl)
          obtain ⟨A2, c2, e, hl⟩ := stepV_1 hv9
          refine gives_val (w' := X) (Rz.exec_extract (v := .int .i64 0) (vs := #[.agg (Gm.cells G (.slice A2 G.shots.length c2)), .int .i64 0]) rfl ?_ rfl) ⟨by simp [Rz.upd, stepV], hX, fun j _ _ _ h => h⟩
          simp only [Rz.putAll]
          rw [Rz.put_none, Rz.put_other (by decide), Rz.put_other (by decide), Rz.put_other (by decide), Rz.put_same (by simp only [Rz.put_size, hAs]; decide)]
          exact e
        · intro vm X hX hV
          exact gives_val (exec_alloc_game rfl) ⟨⟨_, zeroG, none, 0, 0, by simp [Rz.upd], hX.size, Box.made _ _ _⟩, hX.alloc hX.size _, fun j _ _ _ h => stepV_below h (one_below _ _)⟩
        · intro vm X hX hV
          have hv2 := hV 42 (by omega) (by omega) (by kernel_rfl)
          obtain ⟨B, g', A', m', c', e4, hbB, hB⟩ := stepV_4 hv2
          have hv0 := hV 40 (by omega) (by omega) (by kernel_rfl)
          obtain ⟨A2, c2, e2, hl⟩ := stepV_2 hv0
          have e4' : vm 42 = .pointer (some ⟨B, 0, none⟩) := e4
          have e2' : vm 40 = .agg (Gm.cells G (.slice A2 G.shots.length c2)) := e2
          refine gives_skip (exec_store_game (B := B) (g := G) (A := A2) (m := G.shots.length) (c := c2) rfl ?_ ?_ hB) ⟨⟨B, A2, c2, by simpa [Rz.upd] using e4', hbB, hB.row _, hl.game_row rfl hB _⟩, Below.setRow' hX hbB _, fun j h1 h2 h3 h => stepV_row h (by omega) e4 hB⟩
          · simp only [Rz.putAll]
            rw [Rz.put_none, Rz.put_same (by simp only [Rz.put_size, hAs]; decide)]
            exact e4'
          · simp only [Rz.putAll]
            rw [Rz.put_none, Rz.put_other (by decide), Rz.put_other (by decide), Rz.put_same (by simp only [Rz.put_size, hAs]; decide)]
            exact e2'
      · intro vm X hX hV
        obtain ⟨BH, A2, c2, e4, hbB, hBH, hl⟩ := hV 43 (by omega) (by omega)
        have e3 := hV 41 (by omega) (by omega)
        clear hV
        simp only [Nat.reduceAdd, stepV] at e4 e3
        simp only [Rz.putAll, Nat.reduceAdd, e4, show vm 41 = .int .i64 0 from e3]
        generalize vm 38 = v38
        generalize vm 39 = v39
        generalize vm 40 = v40
        generalize vm 43 = v43
        obtain ⟨⟨gok, gdice⟩, gfr, grise⟩ := GG.out
        have cmay := Lib.hid (may_yes G A2 _ c2 X gok rfl hl)
        have XG := Lib.hid (HBX.out X hX)
        have XH := Lib.hid hBH
        have LX := Lib.hid hl
        have KX := Lib.hid (HY.out.trans (hX.mono HY.out.size))
        have e0G : ∀ s, (Gm.cells G s)[0]? = some (.int .i64 ((f : Int) + 1)) := fun s => by rw [← HFR.out, ← gfr]; exact Gm.cells_0 G s
        have e0g : ∀ s, (Gm.cells g s)[0]? = some (.int .i64 (f : Int)) := fun s => by rw [← HFR.out]; exact Gm.cells_0 g s
        have hwf1 : IntKind.i64.wrap ((f : Int) + 1) = (f : Int) + 1 := by rw [IntKind.wrap_i64]; omega
        have GOK := Lib.hid (And.intro gok gdice)
        have GFR := Lib.hid (gfr.trans (by rw [HFR.out]))
        have GRI := Lib.hid grise
        have szG : w.heap.size ≤ BG := sz1
        have neq : BG ≠ BH := by have := (HBX.out X hX).lt; have := hbx_lt.out; omega
        clear e4 e3 hBH hl hX gok gdice gfr grise CS CF CM CQ CZ HBX GG
        go_upto_region 12 with (first | ((with_reducible refine load_gate_g ?_ rfl ?_); (focus first | rfl | kernel_rfl | simp [Region.wanted, yielded]); apply LoadGame.mk rfl; (with_reducible exact XH.out)) | ((with_reducible refine load_gate rfl rfl ?_); apply LoadGame.mk rfl; (with_reducible exact XH.out)) | (go_at_call 23; ((with_reducible refine (cmay.out).mono ?_); rintro e w4 ⟨rfl, hb⟩; have X4G := Lib.hid (XG.out.below hb XG.out.lt); have X4H := Lib.hid (XH.out.below hb XH.out.lt); have L4 := Lib.hid (LX.out.call hb); have K4 := Lib.hid (KX.out.trans (hb.mono KX.out.size)); have cG := X4G.out.cell; have cH := X4H.out.cell; clear hb)))
        go_wp2_with fail
        go_loopw [12] (fun i wx => ∃ k : Nat, k ≤ 8 ∧ i = .int .i64 k ∧ MayTwo BG BH w g G A1 A2 c1 c2 wx) (fun i _ => 8 - (intOf i).toNat)
        case atStart => exact ⟨0, by omega, rfl, ⟨X4G.out, X4H.out, L4.out, K4.out⟩⟩
        case round =>
          obtain ⟨k, hk, rfl, hT⟩ := hrel
          clear X4G X4H L4 K4 cG cH XG XH LX KX cmay e0G e0g
          have bG := hT.g.cell
          have bH := hT.h.cell
          have HT2 := Lib.hid hT
          clear hT
          by_cases hk8 : k < 8
          · have hki : (k : Int) < 8 := by omega
            have hwk : IntKind.u64.wrap (k : Int) = (k : Int) := by rw [IntKind.wrap_u64]; omega
            have r1 := GRI.out k hk8
            have r2 := HON.out k hk8
            have s0 : ∀ s, (Gm.cells g s)[2 + k * 7]? = some (.bool (Gm.bit m k)) := fun s => (Gm.cells_ship g s k 0 hk8 (by omega)).trans (by rw [← r2]; rfl)
            have s6 : ∀ s, (Gm.cells g s)[2 + k * 7 + 6]? = some (.int .i64 (g.ship k).score) := fun s => (Gm.cells_ship g s k 6 hk8 (by omega)).trans rfl
            have t0 : ∀ s, (Gm.cells G s)[2 + k * 7]? = some (.bool (Gm.bit m k)) := fun s => (Gm.cells_ship G s k 0 hk8 (by omega)).trans (by rw [← r2, ← r1.1]; rfl)
            have t6 : ∀ s, (Gm.cells G s)[2 + k * 7 + 6]? = some (.int .i64 (G.ship k).score) := fun s => (Gm.cells_ship G s k 6 hk8 (by omega)).trans rfl
            have hsc : ¬ (G.ship k).score < (g.ship k).score := by omega
            generalize (G.ship k).score = SG at t6 hsc
            generalize (g.ship k).score = Sg at s6 hsc
            clear r1 r2
            cases hbit : Gm.bit m k
            · have hb : (bits .and .i64 (m / 2 ^ k) 1 == 1) = false := hbit
              rw [hbit] at s0 t0
              clear hbit
              go_upto_region 15 with fail
              go_quiet (fail)
              go_wp2_with fail
              go_roundw
              case rel => exact ⟨k + 1, by omega, by go_num, HT2.out.draws _⟩
              case measure => simp [intOf]; omega
            · have hb : (bits .and .i64 (m / 2 ^ k) 1 == 1) = true := hbit
              rw [hbit] at s0 t0
              clear hbit
              go_upto_region 15 with fail
              go_quiet (fail)
              go_wp2_with fail
              go_roundw
              case rel => exact ⟨k + 1, by omega, by go_num, HT2.out.draws _⟩
              case measure => simp [intOf]; omega
          · have hki : ¬ (k : Int) < 8 := by omega
            have XG := Lib.hid HT2.out.g
            have XH := Lib.hid HT2.out.h
            clear bG bH
            go_wp2_with (first | ((with_reducible refine load_gate rfl rfl ?_); apply LoadGame.mk rfl; (with_reducible exact XH.out)) | ((with_reducible refine store_gate rfl rfl ?_); apply StoreGame.mk rfl rfl rfl; focus (with_reducible exact XG.out)))
            go_roundw
            case rel => exact ⟨f + 1, by omega, by go_num, ⟨⟨G, A2, c2, ⟨GOK.out.1, GOK.out.2⟩, by rw [GFR.out]; omega, fun j hj => (GRI.out j hj).1.trans (HON.out j hj), XG.out.row _, HT2.out.l.game_row rfl XG.out _⟩, Below.setRow' HT2.out.below szG _⟩⟩
            case measure => simp [intOf]; omega
    · have hf8 : ¬ (f : Int) < n := by omega
      have HY := Lib.hid hY
      clear hX hLs hY hgood hon hfr
      go_wp2_with (first | (go_at_call 14; ((with_reducible refine ((ct _).out).mono ?_); rintro e w4 ⟨rfl, hb⟩; have K4 := Lib.hid (HY.out.trans (hb.mono HY.out.size)); clear hb)))
      go_ret
      exact ⟨rfl, K4.out⟩

theorem may_law (s : ByteArray) (m : Int) (A : Option Addr) (c : Nat) (l : List Gm.In) (w : World) (hs : s.size ≤ maxLen) (hn : l.length ≤ maxLen) (hl : ∀ x ∈ l, Gm.tyIn x) (hL : Lies w w.heap.size 3 A l.length (Gm.inCells l)) :
    Calls Try.prog 4 #[.string s, .int .i64 m, .slice A l.length c] w fun e w' => e = .returned (.bool true) ∧ Kept w w' := by
  by_cases h : 20 < s.size ∨ 100 < l.length
  · exact may_big s m A _ c w hs hn h
  · exact may_small s m A c _ l w (by omega) rfl (by omega) hl hL
end Go.Proofs.Ytpmdmpkoejaibaa
