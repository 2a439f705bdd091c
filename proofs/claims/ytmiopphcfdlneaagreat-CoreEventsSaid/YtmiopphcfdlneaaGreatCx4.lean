/-
Several texts in one: Sha Ta Ig Onl Rga Fa Ga Ha Hb Eq Ih.
-/
import Derived.Test.YtmiopphcfdlneaaGreatCx3
set_option maxRecDepth 100000
set_option maxHeartbeats 8000000
set_option linter.unusedVariables false
set_option linter.unusedSimpArgs false
namespace Go.Proofs.YtmiopphcfdlneaaGreat
open Go.RowKit Go.Shelf
theorem qoh (s : Gm.Shot) (hok : Gm.qa7 s) (P o : Nat) (t : TypeId) (cs : Array Value) (bk : List Int) (b Bb Bp : Nat) (w : World) (hbB : b <= Bb) (h : Wr b Bb Bp bk w) (hl : bk.length + 18 <= 65536) (hP : Box w P t cs)
 (sc : ∀ j, j < 6 -> cs[o + j]? = s.cells[j]?) (h1 : t ≠ 165) (h2 : t ≠ 5) (h3 : t ≠ 198) :
 Calls Tryz.prog 172 #[.func (.func 174) #[] #[.pointer (some ⟨Bp, 0, none⟩)], .pointer (some ⟨P, o, none⟩)] w fun e w' => e = .returned (.tuple #[]) /\ Wr b Bb Bp (bk ++ Im.shot s) w' /\ Wrote b Bb w w' := by
 obtain ⟨owner, x, y, vx, vy, left⟩ := s
 have s0 := sc 0 (by omega)
 have s1 := sc 1 (by omega)
 have s2 := sc 2 (by omega)
 have s3 := sc 3 (by omega)
 have s4 := sc 4 (by omega)
 have s5 := sc 5 (by omega)
 simp only [Gm.Shot.cells, List.getElem?_cons_zero, List.getElem?_cons_succ, Nat.add_zero] at s0 s1 s2 s3 s4 s5
 obtain ⟨w0, w1', ⟨w2, w2'⟩, ⟨w3, w3'⟩, ⟨w4, w4'⟩, ⟨w5, w5'⟩, w6, w6'⟩ := hok
 dsimp only at w0 w1' w2 w2' w3 w3' w4 w4' w5 w5' w6 w6'
 have HSN := qh (show bk ++ Im.shot ⟨owner, x, y, vx, vy, left⟩ = bk ++ Im.bytesOf 1 owner ++ Im.flight (fun k => match k with | 0 => x | 1 => y | 2 => vx | _ => vy) 4 ++ Im.bytesOf 1 left from (show ∀ a b c d : List Int, a ++ (b ++ (c ++ d)) = a ++ b ++ c ++ d from fun a b c d => by simp) _ _ _ _)
 have hwo : IntKind.u64.wrap owner = owner := by rw [IntKind.wrap_u64]; omega
 have hwl : IntKind.u64.wrap left = left := by rw [IntKind.wrap_u64]; omega
 have P2 := qh hP
 have IV2 := qh h.qcO
 have ltP := hP.lt
 have c3 := qh (qce 1 1 rfl owner P o t cs bk b Bb Bp w (by decide) (by omega) hbB h (by omega) P2.out s0 h1 h2 h3)
 rw [hwo] at c3
 have p2 := P2.out.cell
 clear sc h hwo hP
 go_enter Tryz.func172, Tryz.ntmps172
 go_upto_region 1 with (go_at_call 168; ((with_reducible refine (c3.out).mono ?_); rintro e w3 ⟨rfl, hI, hK⟩; have P3 := qh (P2.out.qbD hK IV2.out h1 h2); have p3 := P3.out.cell; have IV3 := qh hI.qcO; have I3 := qh hI; have K3 := qh hK; clear hI hK))
 have lf := Im.qcU (fun k => match k with | 0 => x | 1 => y | 2 => vx | _ => vy) 4
 have cf := fun X (hX : Wr b Bb Bp (bk ++ Im.bytesOf 1 owner) X) (hB : Box X P t cs) Bq hq => qh (qgX (fun k => match k with | 0 => x | 1 => y | 2 => vx | _ => vy) (fun j => o + 1 + j) P Bq t cs (bk ++ Im.bytesOf 1 owner) b Bb Bp X (fun k hk => by
  match k, hk with
  | 0, _ => exact (show -2147483648 <= x /\ x <= 2147483647 by omega)
  | 1, _ => exact (show -2147483648 <= y /\ y <= 2147483647 by omega)
  | 2, _ => exact (show -2147483648 <= vx /\ vx <= 2147483647 by omega)
  | 3, _ => exact (show -2147483648 <= vy /\ vy <= 2147483647 by omega)) hbB hX (by rw [List.length_append, Im.qaw]; omega) hB (fun k hk => by
  match k, hk with
  | 0, _ => exact s1
  | 1, _ => exact s2
  | 2, _ => exact s3
  | 3, _ => exact s4) h1 h2 h3 hq 4)
 refine Ry.qbf (by kernel_rfl) [] (by kernel_rfl) (· = w3.drew) (fun _ => True) (fun _ => True) rfl (fun W hW => ⟨trivial, trivial⟩) ?_
 repeat (first
  | (apply Ry.qbg rfl rfl; focus (intro _; go_simp; first | done | rfl))
  | (apply Ry.qcy rfl rfl rfl rfl; focus (intro W hW; clear hW; go_simp; first | done | rfl)))
 refine Ry.qdA rfl (W' := w3.drew.alloc (.cells #[.pointer (some ⟨P, o + 1, none⟩), .pointer (some ⟨P, o + 2, none⟩), .pointer (some ⟨P, o + 3, none⟩), .pointer (some ⟨P, o + 4, none⟩)] 225)) (v := .slice (some ⟨w3.drew.heap.size, 0, none⟩) 4 4) ?_ ⟨trivial, trivial⟩ ?_
 focus (go_simp; first | done | rfl)
 refine Ry.qcz (C' := fun Z => Wr b Bb Bp (bk ++ Im.bytesOf 1 owner ++ Im.flight (fun k => match k with | 0 => x | 1 => y | 2 => vx | _ => vy) 4) Z /\ Wrote b Bb w Z /\ Box Z P t cs) (v := .tuple #[]) (f := 192) (args := #[.func (.func 174) #[] #[.pointer (some ⟨Bp, 0, none⟩)], .slice (some ⟨w3.drew.heap.size, 0, none⟩) 4 4]) rfl ?_ ?_ ?_ ?_
 · intro Z hZ; clear hZ; go_simp; first | done | rfl | exact ⟨rfl, rfl⟩
 · intro Z hZ
   subst hZ
   have hW := (I3.out.call (qhR w3)).alloc (.cells #[.pointer (some ⟨P, o + 1, none⟩), .pointer (some ⟨P, o + 2, none⟩), .pointer (some ⟨P, o + 3, none⟩), .pointer (some ⟨P, o + 4, none⟩)] 225)
   refine (cf _ hW (P3.out.drew.alloc _) w3.drew.heap.size (Box.made _ _ _)).out.mono ?_
   rintro e Z2 ⟨rfl, hI2, hK2⟩
   exact ⟨rfl, hI2, (K3.out.drew.alloc _).trans hK2, (P3.out.drew.alloc _).qbD hK2 hW.qcO h1 h2⟩
 · exact fun Z hZ => ⟨trivial, trivial⟩
 refine Ry.qcd fun W4 hW4 => ?_
 obtain ⟨hI4, hK4, hP4⟩ := hW4
 have P4 := qh hP4
 have p4 := P4.out.cell
 have IV4 := qh hI4.qcO
 have K4 := qh hK4
 have c5 := qh (qce 1 1 rfl left P (o + 5) t _ _ b Bb Bp W4 (by decide) (by omega) hbB hI4 (by rw [List.length_append, List.length_append, Im.qaw, lf]; omega) hP4 s5 h1 h2 h3)
 rw [hwl] at c5
 generalize Im.flight (fun k => match k with | 0 => x | 1 => y | 2 => vx | _ => vy) 4 = FL at *
 clear hI4 hK4 hP4 cf lf hwl s0 s1 s2 s3 s4 s5 p3 p2 c3
 go_wp2_with (go_at_call 168; ((with_reducible refine (c5.out).mono ?_); rintro e w5 ⟨rfl, hI, hK⟩; have P5 := qh (P4.out.qbD hK IV4.out h1 h2); have IV5 := qh hI.qcO; have I5 := qh hI; have K5 := qh (K4.out.trans hK); clear hI hK))
 go_end0
 exact ⟨rfl, by rw [HSN.out]; exact I5.out, K5.out⟩
theorem qm0 (l : List Gm.Shot) (hok : ∀ s ∈ l, Gm.qa7 s) (b Bb Bp : Nat) (w : World) (hbB : b <= Bb) (hbw : b <= w.heap.size) : qqV 172 80 6 (Gm.qad l) (l.map Im.shot) b Bb Bp w := by
 intro k S X Y bs hk hB hbS hI hl hY hc
 rw [List.length_map] at hk
 have e : (l.map Im.shot).getD k [] = Im.shot l[k] := by simp [hk]
 rw [e] at hl ⊢
 have ok := hok l[k] (List.getElem_mem hk)
 have sc : ∀ j, j < 6 -> Y[k * 6 + j]? = (l[k]).cells[j]? := fun j hj => by rw [hc j hj]; exact Gm.qbz l k j hk hj
 rw [Im.qlI] at hl
 refine (qoh l[k] ok S (k * 6) 80 Y bs b Bb Bp X hbB hI hl hY sc (by decide) (by decide) (by decide)).mono ?_
 rintro e w' ⟨rfl, h1, h2⟩
 have hv := hI.qcO
 exact ⟨rfl, h1, h2.to (Nat.le_trans hbw hB.size), (Kb.refl X).wrote h2 hv, (VarK.refl X).wrote h2, Y, hY.qbD h2 hv (by decide) (by decide), rfl, fun _ _ => rfl⟩
theorem qmM (l : List Gm.Shot) (n : Nat) (A : Option Addr) (c B : Nat) (t : TypeId) (cs : Array Value) (bs : List Int) (b Bb Bp : Nat) (w : World) (hn : n = l.length) (hn32 : n <= 32) (hok : ∀ s ∈ l, Gm.qa7 s) (hbB : b <= Bb) (hbP : b <= B) (hbw : b <= w.heap.size) (h : Wr b Bb Bp bs w) (hl : bs.length + 1 + 18 * 32 <= 65536) (hP : Box w B t cs)
 (ho : cs[58]? = some (.slice A n c)) (hL : Lies w b 6 A n (Gm.qad l)) (h1 : t ≠ 165) (h2 : t ≠ 5) (h3 : t ≠ 198) (h4 : t ≠ 80) :
 Calls Tryz.prog 171 #[.func (.func 174) #[] #[.pointer (some ⟨Bp, 0, none⟩)], .int .i64 1, .pointer (some ⟨B, 58, none⟩), .func (.func 172) #[] #[]] w fun e w' => e = .returned (.tuple #[]) /\ Wr b Bb Bp (bs ++ (Im.bytesOf 1 n ++ Im.qaa l)) w' /\ Below b w w' /\ Kb B w w' /\ ∃ S, Box w' B t (cs.setIfInBounds 58 (.slice (some ⟨S, 0, none⟩) n n)) := by
 have he := Im.qgu l
 have hf : (l.map Im.shot).flatten = Im.qaa l := rfl
 refine (qof (Gm.qad l) (l.map Im.shot) n A c 1 1 rfl B 58 t cs bs b Bb Bp w (by rw [List.length_map, hn]) (by omega) (by decide) hbB hbP hbw h (by rw [hf]; omega) hP ho hL (qbG l) h1 h2 h3 (qm0 l hok b Bb Bp w hbB hbw)).mono ?_
 rintro e w' ⟨rfl, h1, h2, h3, _, h4⟩
 exact ⟨rfl, h1, h2, h3, h4⟩
end Go.Proofs.YtmiopphcfdlneaaGreat
namespace Ros
open Go
structure R where
 version : Int
 peer : Nat -> Int
 gen : Nat -> Int
def pair (r : R) (k : Nat) : List Value := [.int .i64 (r.peer k), .int .i64 (r.gen k)]
def qaP (r : R) : List Value := pair r 0 ++ (pair r 1 ++ (pair r 2 ++ (pair r 3 ++ (pair r 4 ++ (pair r 5 ++ (pair r 6 ++ pair r 7))))))
def cells (r : R) : Array Value := (Value.int .i64 r.version :: qaP r).toArray
theorem qaf (r : R) : (cells r).size = 17 := rfl
theorem qa1 (r : R) : (cells r)[0]? = some (.int .i64 r.version) := rfl
theorem qaQ (r : R) (k : Nat) (hk : k < 8) : (cells r)[1 + k * 2]? = some (.int .i64 (r.peer k)) := by
 match k, hk with
 | 0, _ | 1, _ | 2, _ | 3, _ | 4, _ | 5, _ | 6, _ | 7, _ => rfl
theorem qbs (r : R) (k : Nat) (hk : k < 8) : (cells r)[1 + k * 2 + 1]? = some (.int .i64 (r.gen k)) := by
 match k, hk with
 | 0, _ | 1, _ | 2, _ | 3, _ | 4, _ | 5, _ | 6, _ | 7, _ => rfl
def upd (f : Nat -> Int) (i : Nat) (v : Int) : Nat -> Int := fun j => if j = i then v else f j
theorem upd_same (f : Nat -> Int) (i : Nat) (v : Int) : upd f i v i = v := by unfold upd; rw [if_pos rfl]
theorem qam (f : Nat -> Int) {i j : Nat} (v : Int) (h : j ≠ i) : upd f i v j = f j := by unfold upd; rw [if_neg h]
theorem qm6 (r : R) (v : Int) : (cells r).setIfInBounds 0 (.int .i64 v) = cells { r with version := v } := rfl
theorem qh4 (r : R) (k : Nat) (hk : k < 8) (v : Int) : (cells r).setIfInBounds (1 + k * 2) (.int .i64 v) = cells { r with peer := upd r.peer k v } := by
 unfold cells
 rw [List.setIfInBounds_toArray]
 match k, hk with
 | 0, _ | 1, _ | 2, _ | 3, _ | 4, _ | 5, _ | 6, _ | 7, _ => rfl
theorem qm7 (r : R) (k : Nat) (hk : k < 8) (v : Int) : (cells r).setIfInBounds (1 + k * 2 + 1) (.int .i64 v) = cells { r with gen := upd r.gen k v } := by
 unfold cells
 rw [List.setIfInBounds_toArray]
 match k, hk with
 | 0, _ | 1, _ | 2, _ | 3, _ | 4, _ | 5, _ | 6, _ | 7, _ => rfl
theorem qh5 (r : R) : ∀ v ∈ (cells r).toList, ∃ n : Int, v = .int .i64 n := by
 intro v hv
 simp only [cells, qaP, pair, List.mem_cons, List.mem_append, List.not_mem_nil, or_false] at hv
 rcases hv with rfl | hv
 · exact ⟨_, rfl⟩
 · rcases hv with hv | hv | hv | hv | hv | hv | hv | hv <;> (rcases hv with rfl | rfl <;> exact ⟨_, rfl⟩)
theorem qlp {r s : R} (hv : r.version = s.version) (hp : ∀ k, k < 8 -> r.peer k = s.peer k) (hg : ∀ k, k < 8 -> r.gen k = s.gen k) : cells r = cells s := by
 unfold cells qaP pair
 rw [hv, hp 0 (by omega), hp 1 (by omega), hp 2 (by omega), hp 3 (by omega), hp 4 (by omega), hp 5 (by omega), hp 6 (by omega), hp 7 (by omega),
  hg 0 (by omega), hg 1 (by omega), hg 2 (by omega), hg 3 (by omega), hg 4 (by omega), hg 5 (by omega), hg 6 (by omega), hg 7 (by omega)]
abbrev Sl := { k : Nat // k < 8 }
def slots : Nat -> Nat -> List Sl
 | 0, _ => []
 | n + 1, i => if h : i < 8 then ⟨i, h⟩ :: slots n (i + 1) else []
abbrev all8 : List Sl := slots 8 0
theorem qnB {n i : Nat} (h : i < 8) : slots (n + 1) i = ⟨i, h⟩ :: slots n (i + 1) := by
 show (if _ : _ then _ else _) = _; rw [dif_pos h]
theorem qjb : ∀ n i, (slots n i).length <= n
 | 0, _ => Nat.le_refl _
 | n + 1, i => by
  unfold slots
  split
  · have := qjb n (i + 1); simp; omega
  · simp
theorem qlB : all8 = [⟨0, by omega⟩, ⟨1, by omega⟩, ⟨2, by omega⟩, ⟨3, by omega⟩, ⟨4, by omega⟩, ⟨5, by omega⟩, ⟨6, by omega⟩, ⟨7, by omega⟩] := rfl
theorem qlT (k : Nat) (hk : k < 8) : (⟨k, hk⟩ : Sl) ∈ all8 := by
 rw [qlB]
 match k, hk with
 | 0, _ | 1, _ | 2, _ | 3, _ | 4, _ | 5, _ | 6, _ | 7, _ => simp
def qfc (r : R) (k : Nat) : Prop := (0 <= r.gen k /\ r.gen k <= 60000) /\ (r.peer k = -1 \/ ((0 <= r.peer k /\ r.peer k < 12) /\ 0 < r.gen k))
def Good (r : R) (l : List Sl) : Prop := (∀ y ∈ l, qfc r y.1) /\ l.Pairwise (fun a b => r.peer a.1 = -1 \/ r.peer a.1 ≠ r.peer b.1)
def Ok (r : R) : Prop := (0 <= r.version /\ r.version <= 1073741824) /\ Good r all8
instance (r : R) (k : Nat) : Decidable (qfc r k) := by unfold qfc; infer_instance
instance (r : R) (l : List Sl) : Decidable (Good r l) := by unfold Good; infer_instance
instance (r : R) : Decidable (Ok r) := by unfold Ok; infer_instance
def may (r : R) : Bool := decide (Ok r)
theorem qpK (r : R) : Good r [] := ⟨by simp, .nil⟩
theorem qeP {r : R} {l : List Sl} {x : Sl} : Good r (l ++ [x]) ↔ Good r l /\ qfc r x.1 /\ ∀ y ∈ l, r.peer y.1 = -1 \/ r.peer y.1 ≠ r.peer x.1 := by
 unfold Good
 rw [List.pairwise_append]
 simp only [List.mem_append, List.mem_singleton, List.pairwise_cons, List.not_mem_nil, false_imp_iff, implies_true, List.Pairwise.nil, and_true, true_and]
 constructor
 · rintro ⟨h1, h2, h3⟩
   exact ⟨⟨fun y hy => h1 y (.inl hy), h2⟩, h1 x (.inr rfl), fun y hy => h3 y hy x rfl⟩
 · rintro ⟨⟨h1, h2⟩, h3, h4⟩
   refine ⟨?_, h2, ?_⟩
   · rintro y (hy | rfl)
     · exact h1 y hy
     · exact h3
   · rintro y hy z rfl
     exact h4 y hy
theorem qmP {r : R} {l m : List Sl} (h : Good r (l ++ m)) : Good r l := by
 unfold Good at *
 exact ⟨fun y hy => h.1 y (by simp [hy]), (List.pairwise_append.1 h.2).1⟩
def hasF (r : R) (l : List Sl) (p : Nat) : Bool := l.any fun y => decide (r.peer y.1 = (p : Int))
theorem qqr {r : R} {l : List Sl} {x : Sl} (h : r.peer x.1 = -1) (p : Nat) : hasF r (l ++ [x]) p = hasF r l p := by
 unfold hasF
 rw [List.any_append]
 simp [h]
 try (intro hp; omega)
theorem qpJ {r : R} {l : List Sl} {x : Sl} {p : Nat} (h : r.peer x.1 = (p : Int)) (q : Nat) : hasF r (l ++ [x]) q = if q = p then true else hasF r l q := by
 unfold hasF
 rw [List.any_append]
 by_cases e : q = p
 · subst e; simp [h]
 · have e' : ¬ (p : Int) = (q : Int) := by omega
   simp [h, e, e']
theorem qlX {r : R} {l : List Sl} {p : Nat} : hasF r l p = false ↔ ∀ y ∈ l, r.peer y.1 ≠ (p : Int) := by
 unfold hasF
 rw [List.any_eq_false]
 simp
def qd9 (f : Nat -> Bool) : Array Value := #[.bool (f 0), .bool (f 1), .bool (f 2), .bool (f 3), .bool (f 4), .bool (f 5), .bool (f 6), .bool (f 7), .bool (f 8), .bool (f 9), .bool (f 10), .bool (f 11)]
theorem qk8 (f : Nat -> Bool) (p : Nat) (hp : p < 12) : (qd9 f)[p]? = some (.bool (f p)) := by
 match p, hp with
 | 0, _ | 1, _ | 2, _ | 3, _ | 4, _ | 5, _ | 6, _ | 7, _ | 8, _ | 9, _ | 10, _ | 11, _ => rfl
theorem qjV (f : Nat -> Bool) (p : Nat) (hp : p < 12) : (qd9 f).setIfInBounds p (.bool true) = qd9 (fun q => if q = p then true else f q) := by
 match p, hp with
 | 0, _ | 1, _ | 2, _ | 3, _ | 4, _ | 5, _ | 6, _ | 7, _ | 8, _ | 9, _ | 10, _ | 11, _ => rfl
theorem Ok.seat {r : R} (h : Ok r) (k : Nat) (hk : k < 8) : qfc r k := h.2.1 ⟨k, hk⟩ (qlT k hk)
theorem qgP {r : R} : Ok r ↔ (0 <= r.version /\ r.version <= 1073741824) /\ (∀ k, k < 8 -> qfc r k) /\ ∀ j k, j < k -> k < 8 -> r.peer j = -1 \/ r.peer j ≠ r.peer k := by
 constructor
 · intro h
   refine ⟨h.1, h.seat, fun j k hjk hk => ?_⟩
   have h2 := h.2.2
   rw [qlB] at h2
   rw [List.pairwise_iff_getElem] at h2
   have := h2 j k (by simp; omega) (by simp; omega) hjk
   have e : ∀ i (hi : i < 8), ([⟨0, by omega⟩, ⟨1, by omega⟩, ⟨2, by omega⟩, ⟨3, by omega⟩, ⟨4, by omega⟩, ⟨5, by omega⟩, ⟨6, by omega⟩, ⟨7, by omega⟩] : List Sl)[i] = ⟨i, hi⟩ := by
    intro i hi
    match i, hi with
    | 0, _ | 1, _ | 2, _ | 3, _ | 4, _ | 5, _ | 6, _ | 7, _ => rfl
   rw [e j (by omega), e k hk] at this
   exact this
 · rintro ⟨h1, h2, h3⟩
   refine ⟨h1, fun y _ => h2 y.1 y.2, ?_⟩
   rw [qlB, List.pairwise_iff_getElem]
   intro i j hi hj hij
   have e : ∀ i (hi : i < 8), ([⟨0, by omega⟩, ⟨1, by omega⟩, ⟨2, by omega⟩, ⟨3, by omega⟩, ⟨4, by omega⟩, ⟨5, by omega⟩, ⟨6, by omega⟩, ⟨7, by omega⟩] : List Sl)[i] = ⟨i, hi⟩ := by
    intro i hi
    match i, hi with
    | 0, _ | 1, _ | 2, _ | 3, _ | 4, _ | 5, _ | 6, _ | 7, _ => rfl
   rw [e i (by simpa using hi), e j (by simpa using hj)]
   exact h3 i j hij (by simpa using hj)
theorem Ok.one {r : R} (h : Ok r) {j k : Nat} (hj : j < 8) (hk : k < 8) (he : r.peer j = r.peer k) (hn : r.peer j ≠ -1) : j = k := by
 have h3 := (qgP.1 h).2.2
 rcases Nat.lt_trichotomy j k with hl | hl | hl
 · rcases h3 j k hl hk with e | e
   · exact absurd e hn
   · exact absurd he e
 · exact hl
 · rcases h3 k j hl hj with e | e
   · exact absurd (he.trans e) hn
   · exact absurd he.symm e
def new : R := ⟨0, fun _ => -1, fun _ => 0⟩
def qeE (r : R) (p : Int) : List Sl -> Int
 | [] => -1
 | x :: l => if r.peer x.1 = p then x.1 else qeE r p l
def of (r : R) (p : Int) : Int := if Ok r /\ 0 <= p /\ p < 12 then qeE r p all8 else -1
theorem qgA {r : R} {p : Int} : ∀ {l : List Sl}, (∀ y ∈ l, r.peer y.1 ≠ p) -> qeE r p l = -1
 | [], _ => rfl
 | x :: l, h => by
  unfold qeE
  rw [if_neg (h x (by simp))]
  exact qgA fun y hy => h y (by simp [hy])
theorem qfD {r : R} {p : Int} {x : Sl} {m : List Sl} : ∀ {l : List Sl}, (∀ y ∈ l, r.peer y.1 ≠ p) -> r.peer x.1 = p -> qeE r p (l ++ x :: m) = x.1
 | [], _, hx => by show (if _ then _ else _) = _; rw [if_pos hx]
 | z :: l, h, hx => by
  show (if _ then _ else _) = _
  rw [if_neg (h z (by simp))]
  exact qfD (fun y hy => h y (by simp [hy])) hx
theorem qfE (r : R) (p : Int) : ∀ l : List Sl, (qeE r p l = -1 /\ ∀ y ∈ l, r.peer y.1 ≠ p) \/ ∃ y ∈ l, qeE r p l = (y.1 : Nat) /\ r.peer y.1 = p
 | [] => .inl ⟨rfl, by simp⟩
 | x :: l => by
  unfold qeE
  by_cases h : r.peer x.1 = p
  · rw [if_pos h]; exact .inr ⟨x, by simp, rfl, h⟩
  · rw [if_neg h]
    rcases qfE r p l with ⟨h1, h2⟩ | ⟨y, h1, h2, h3⟩
    · refine .inl ⟨h1, fun y hy => ?_⟩
      rcases List.mem_cons.1 hy with rfl | hy
      · exact h
      · exact h2 y hy
    · exact .inr ⟨y, by simp [h1], h2, h3⟩
theorem qgb {r : R} {p : Int} (hr : Ok r) (h0 : 0 <= p) (h1 : p < 12) : (of r p = -1 /\ ∀ k, k < 8 -> r.peer k ≠ p) \/ ∃ k : Nat, k < 8 /\ of r p = k /\ r.peer k = p := by
 unfold of
 rw [if_pos ⟨hr, h0, h1⟩]
 rcases qfE r p all8 with ⟨h, h'⟩ | ⟨y, _, h, h'⟩
 · exact .inl ⟨h, fun k hk => h' ⟨k, hk⟩ (qlT k hk)⟩
 · exact .inr ⟨y.1, y.2, h, h'⟩
def qbS (r : R) (slot peer : Int) : Prop := (((Ok r /\ r.version < 1073741824) /\ 0 <= slot /\ slot < 8) /\ (0 <= peer /\ peer < 12) /\ of r peer = -1) /\ r.peer slot.toNat = -1 /\ r.gen slot.toNat ≠ 60000
def take (r : R) (k : Nat) (peer : Int) : R := ⟨r.version + 1, upd r.peer k peer, upd r.gen k (r.gen k + 1)⟩
def qck (r : R) (slot : Int) : Prop := ((Ok r /\ r.version < 1073741824) /\ 0 <= slot /\ slot < 8) /\ r.peer slot.toNat ≠ -1
def give (r : R) (k : Nat) : R := ⟨r.version + 1, upd r.peer k (-1), r.gen⟩
instance (r : R) (s p : Int) : Decidable (qbS r s p) := by unfold qbS; infer_instance
instance (r : R) (s : Int) : Decidable (qck r s) := by unfold qck; infer_instance
end Ros
namespace Go.Proofs.YtmiopphcfdlneaaGreat
open Go.RowKit Go.Shelf
def Im.cells (g : Gm.G) (s : Value) (r : Ros.R) : Array Value := Gm.cells g s ++ Ros.cells r
theorem Im.qaf (g : Gm.G) (s : Value) (r : Ros.R) : (Im.cells g s r).size = 76 := by unfold Im.cells; rw [Array.size_append, Gm.qaf, Ros.qaf]
theorem Im.qdh (g : Gm.G) (s : Value) (r : Ros.R) (i : Nat) (hi : i < 59) : (Im.cells g s r)[i]? = (Gm.cells g s)[i]? := by
 unfold Im.cells; rw [Array.getElem?_append_left (by rw [Gm.qaf]; exact hi)]
theorem Im.qez (g : Gm.G) (s : Value) (r : Ros.R) (i : Nat) : (Im.cells g s r)[59 + i]? = (Ros.cells r)[i]? := by
 unfold Im.cells; rw [Array.getElem?_append_right (by rw [Gm.qaf]; omega), Gm.qaf]; congr 1; omega
theorem Im.qae (g : Gm.G) (s : Value) (r : Ros.R) (k j : Nat) (hk : k < 8) (hj : j < 7) : (Im.cells g s r)[2 + k * 7 + j]? = (g.ship k).cells[j]? :=
 (Im.qdh g s r _ (by omega)).trans (Gm.qae g s k j hk hj)
theorem Im.qaQ (g : Gm.G) (s : Value) (r : Ros.R) (k : Nat) (hk : k < 8) : (Im.cells g s r)[60 + k * 2]? = some (.int .i64 (r.peer k)) := by
 rw [show 60 + k * 2 = 59 + (1 + k * 2) by omega, Im.qez]; exact Ros.qaQ r k hk
theorem Im.qbs (g : Gm.G) (s : Value) (r : Ros.R) (k : Nat) (hk : k < 8) : (Im.cells g s r)[60 + k * 2 + 1]? = some (.int .i64 (r.gen k)) := by
 rw [show 60 + k * 2 + 1 = 59 + (1 + k * 2 + 1) by omega, Im.qez]; exact Ros.qbs r k hk
theorem Im.qey (g : Gm.G) (s s' : Value) (r : Ros.R) : (Im.cells g s r).setIfInBounds 58 s' = Im.cells g s' r := by
 unfold Im.cells Gm.cells Ros.cells
 simp only [List.append_toArray, List.setIfInBounds_toArray]
 congr 1
def Im.qbZ (f : Nat -> Gm.Ship) : Nat -> List Int
 | 0 => []
 | k + 1 => Im.qbZ f k ++ Im.ship (f k)
theorem Im.qo9 (s : Gm.Ship) : (Im.ship s).length = if s.on = true then 22 else 1 := by
 unfold Im.ship
 split
 · rw [List.length_append, List.length_append, List.length_append, Im.qaw, Im.qaw, Im.qaw, Im.qcU]
 · rfl
theorem Im.qqb (s : Gm.Ship) : (Im.ship s).length <= 22 := by rw [Im.qo9]; split <;> omega
theorem Im.qf3 (f : Nat -> Gm.Ship) : ∀ k, (Im.qbZ f k).length <= 22 * k
 | 0 => Nat.le_refl _
 | k + 1 => by
  show (Im.qbZ f k ++ Im.ship (f k)).length <= _
  have := Im.qf3 f k
  have := Im.qqb (f k)
  rw [List.length_append]; omega
def Im.seats (r : Ros.R) : Nat -> List Int
 | 0 => []
 | k + 1 => Im.seats r k ++ (Im.bytesOf 1 (r.peer k + 1) ++ Im.bytesOf 2 (r.gen k))
theorem Im.qgz (r : Ros.R) : ∀ k, (Im.seats r k).length = 3 * k
 | 0 => rfl
 | k + 1 => by
  show (Im.seats r k ++ _).length = _
  rw [List.length_append, List.length_append, Im.qgz r k, Im.qaw, Im.qaw]; omega
def Im.put (g : Gm.G) (r : Ros.R) : List Int :=
 Im.bytesOf 4 g.frame ++ (Im.bytesOf 8 g.dice ++ (Im.qbZ g.ship 8 ++ ((Im.bytesOf 1 g.qaa.length ++ Im.qaa g.qaa) ++ (Im.bytesOf 4 r.version ++ Im.seats r 8))))
theorem qoi (s : Gm.Ship) (P o : Nat) (t : TypeId) (cs : Array Value) (bs : List Int) (b Bb Bp : Nat) (w : World) (ok : Gm.qaX s) (hbB : b <= Bb) (h : Wr b Bb Bp bs w) (hl : bs.length + 22 <= 65536) (hP : Box w P t cs) (hc : ∀ j, j < 7 -> cs[o + j]? = s.cells[j]?) (h1 : t ≠ 165) (h2 : t ≠ 5) (h3 : t ≠ 198) :
 Calls Tryz.prog 170 #[.func (.func 174) #[] #[.pointer (some ⟨Bp, 0, none⟩)], .pointer (some ⟨P, o, none⟩)] w fun e w' => e = .returned (.tuple #[]) /\ Wr b Bb Bp (bs ++ Im.ship s) w' /\ Wrote b Bb w w' := by
 obtain ⟨on, x, y, vx, vy, cool, score⟩ := s
 have s0 := hc 0 (by omega)
 have s1 := hc 1 (by omega)
 have s2 := hc 2 (by omega)
 have s3 := hc 3 (by omega)
 have s4 := hc 4 (by omega)
 have s5 := hc 5 (by omega)
 have s6 := hc 6 (by omega)
 simp only [Gm.Ship.cells, List.getElem?_cons_zero, List.getElem?_cons_succ, Nat.add_zero] at s0 s1 s2 s3 s4 s5 s6
 obtain ⟨w0, ⟨w2, w2'⟩, ⟨w3, w3'⟩, ⟨w4, w4'⟩, ⟨w5, w5'⟩, w6, w6', w7, w7'⟩ := ok
 dsimp only at w0 w2 w2' w3 w3' w4 w4' w5 w5' w6 w6' w7 w7'
 cases on
 · exact qk6 P o t cs bs b Bb Bp w hbB h (by omega) hP s0 h1 h2 h3
 · exact qmN x y vx vy cool score P o t cs bs b Bb Bp w hbB h hl hP s0 s1 s2 s3 s4 s5 s6 (by omega) (by omega) (by omega) (by omega) ⟨w6, w6'⟩ ⟨w7, w7'⟩ h1 h2 h3
theorem qmL (g : Gm.G) (r : Ros.R) (n : Nat) (A : Option Addr) (c B : Nat) (bs : List Int) (b Bb Bp : Nat) (w : World) (hn : n = g.qaa.length) (hg : Gm.ok g) (hd : 0 <= g.dice /\ g.dice <= 18446744073709551615) (hr : Ros.Ok r) (hbB : b <= Bb) (hbP : b <= B) (hbw : b <= w.heap.size) (h : Wr b Bb Bp bs w) (hl : bs.length <= 64000) (hP : Box w B 38 (Im.cells g (.slice A n c) r))
 (hL : Lies w b 6 A n (Gm.qad g.qaa)) :
 Calls Tryz.prog 143 #[.func (.func 174) #[] #[.pointer (some ⟨Bp, 0, none⟩)], .pointer (some ⟨B, 0, none⟩)] w fun e w' => e = .returned (.tuple #[]) /\ Wr b Bb Bp (bs ++ Im.put g r) w' /\ Below b w w' /\ Kb B w w' := by
 have hw0 : IntKind.u64.wrap g.frame = g.frame := by rw [IntKind.wrap_u64]; have := hg.1; have := hg.2.1; omega
 have hw59 : IntKind.u64.wrap r.version = r.version := by rw [IntKind.wrap_u64]; have := hr.1; omega
 have e0 : (Im.cells g (.slice A n c) r)[0]? = some (.int .i64 g.frame) := (Im.qdh _ _ _ 0 (by omega)).trans (Gm.qa1 _ _)
 have e1 : (Im.cells g (.slice A n c) r)[1]? = some (.int .u64 g.dice) := (Im.qdh _ _ _ 1 (by omega)).trans (Gm.qcg _ _)
 have c1 := qh (qce 4 4 rfl g.frame B 0 38 _ bs b Bb Bp w (by decide) (by have := hg.1; have := hg.2.1; omega) hbB h (by omega) hP e0 (by decide) (by decide) (by decide))
 rw [hw0] at c1
 have c2 := fun X (hX : Wr b Bb Bp (bs ++ Im.bytesOf 4 g.frame) X) (hB : Box X B 38 (Im.cells g (.slice A n c) r)) => qh (qpx 8 8 rfl g.dice B 1 38 _ _ b Bb Bp X (by decide) hd hbB hX (by rw [List.length_append, Im.qaw]; omega) hB e1 (by decide) (by decide) (by decide))
 have IV0 := qh h.qcO
 have P0 := qh hP
 have K0 := qh (Wrote.refl hbB w)
 have LL := qh hL
 have HG := qh hg
 have HR := qh hr
 have NL := qh hn
 have HV := qh hw59
 have ltP := hP.lt
 clear h hP hL hn hg hr hw0 hw59 e0 e1
 go_enter Tryz.func143, Tryz.ntmps143
 go_wp2_with (first | (go_at_call 168; ((with_reducible refine (c1.out).mono ?_); rintro e w1 ⟨rfl, hI, hK⟩; have P1 := qh (P0.out.qbD hK IV0.out (by decide) (by decide)); have IV1 := qh hI.qcO; have I1 := qh hI; have K1 := qh (K0.out.trans hK); clear hI hK)) | (go_at_call 169; ((with_reducible refine ((c2 _ I1.out P1.out).out).mono ?_); rintro e w2 ⟨rfl, hI, hK⟩; have P2 := qh (P1.out.qbD hK IV1.out (by decide) (by decide)); have IV2 := qh hI.qcO; have I2 := qh hI; have K2 := qh (K1.out.trans hK); clear hI hK)))
 go_loopw [18] (fun i wr => ∃ k : Nat, k <= 8 /\ i = .int .i64 k /\ Wr b Bb Bp (bs ++ Im.bytesOf 4 g.frame ++ Im.bytesOf 8 g.dice ++ Im.qbZ g.ship k) wr /\ Wrote b Bb w wr) (fun i _ => 8 - (intOf i).toNat)
 case atStart => exact ⟨0, by omega, rfl, by simpa [Im.qbZ] using I2.out, K2.out⟩
 case round =>
  obtain ⟨k, hk, rfl, hI, hK⟩ := hrel
  clear I1 P1 IV1 K1 I2 P2 IV2 K2 c1 c2
  by_cases hlt : k < 8
  · have hk8 : (k : Int) < 8 := by omega
    have P3 := P0.out.qbD hK IV0.out (by decide) (by decide)
    have hsl := Im.qf3 g.ship k
    have c3 := qh (qoi (g.ship k) B (2 + k * 7) 38 _ _ b Bb Bp wr (HG.out.2.2.2.1 k hlt) hbB hI (by rw [List.length_append, List.length_append, List.length_append, Im.qaw, Im.qaw]; omega) P3 (fun j hj => Im.qae g _ r k j hlt hj) (by decide) (by decide) (by decide))
    have HSN := qh (show bs ++ Im.bytesOf 4 g.frame ++ Im.bytesOf 8 g.dice ++ Im.qbZ g.ship k ++ Im.ship (g.ship k) = bs ++ Im.bytesOf 4 g.frame ++ Im.bytesOf 8 g.dice ++ Im.qbZ g.ship (k + 1) by simp [Im.qbZ])
    have HK := qh hK
    clear hI hK P3
    go_wp2_with (go_at_call 170; ((with_reducible refine (c3.out).mono ?_); rintro e w4 ⟨rfl, hI, hK⟩; have I4 := qh hI; have K4 := qh (HK.out.trans hK); clear hI hK))
    go_roundw
    case rel => exact ⟨k + 1, by omega, by go_num, by rw [<- HSN.out]; exact I4.out, K4.out⟩
    case measure => simp [intOf]; omega
  · have hk8 : ¬ (k : Int) < 8 := by omega
    obtain rfl : k = 8 := by omega
    have P3 := P0.out.qbD hK IV0.out (by decide) (by decide)
    have hsl := Im.qf3 g.ship 8
    have hn32 : g.qaa.length <= 32 := HG.out.2.2.1
    have hshl := Im.qgu g.qaa
    have c5 := qh (qmM g.qaa n A c B 38 (Im.cells g (.slice A n c) r) _ b Bb Bp wr NL.out (by have := NL.out; omega) HG.out.way.qaa hbB hbP (Nat.le_trans hbw hK.size) hI (by rw [List.length_append, List.length_append, List.length_append, Im.qaw, Im.qaw]; omega) P3 ((Im.qdh _ _ _ 58 (by omega)).trans (Gm.qbc _ _)) (LL.out.below (hK.to hbw)) (by decide) (by decide) (by decide) (by decide))
    have lens : (bs ++ Im.bytesOf 4 g.frame ++ Im.bytesOf 8 g.dice ++ Im.qbZ g.ship 8 ++ (Im.bytesOf 1 n ++ Im.qaa g.qaa)).length <= 65000 := by
     rw [List.length_append, List.length_append, List.length_append, List.length_append, List.length_append, Im.qaw, Im.qaw, Im.qaw, hshl]; omega
    have HN := qh (show bs ++ Im.put g r = bs ++ Im.bytesOf 4 g.frame ++ Im.bytesOf 8 g.dice ++ Im.qbZ g.ship 8 ++ (Im.bytesOf 1 n ++ Im.qaa g.qaa) ++ Im.bytesOf 4 r.version ++ Im.seats r 8 by rw [NL.out]; simp [Im.put])
    generalize hbk : bs ++ Im.bytesOf 4 g.frame ++ Im.bytesOf 8 g.dice ++ Im.qbZ g.ship 8 ++ (Im.bytesOf 1 n ++ Im.qaa g.qaa) = bk at *
    have B3 := qh (hK.to hbw)
    have Q3 := qh ((Kb.refl (B := B) w).wrote hK IV0.out)
    clear hI hK P3 hbk hshl hsl hn32 P0 K0 LL
    go_upto_region 8 with (go_at_call 171; ((with_reducible refine (c5.out).mono ?_); rintro e w6 ⟨rfl, hI6, hB6, hK6, S, hP6⟩; rw [Im.qey] at hP6; have I6 := qh hI6; have P6 := qh hP6; have B6 := qh (B3.out.trans hB6); have Q6 := qh (Q3.out.trans hK6); clear hI6 hB6 hK6 hP6))
    have e59 : (Im.cells g (.slice (some ⟨S, 0, none⟩) n n) r)[59]? = some (.int .i64 r.version) := (Im.qez _ _ _ 0).trans (Ros.qa1 _)
    have c7 := qh (qce 4 4 rfl r.version B 59 38 _ bk b Bb Bp w6 (by decide) (by have := HR.out.1; omega) hbB I6.out (by omega) P6.out e59 (by decide) (by decide) (by decide))
    rw [HV.out] at c7
    have IV6 := qh I6.out.qcO
    have K6 := qh (Wrote.refl hbB w6)
    clear e59 c5
    go_wp2_with (first | (go_at_call 168; ((with_reducible refine (c7.out).mono ?_); rintro e w7 ⟨rfl, hI, hK⟩; have P7 := qh (P6.out.qbD hK IV6.out (by decide) (by decide)); have IV7 := qh hI.qcO; have I7 := qh hI; have K7 := qh (K6.out.trans hK); clear hI hK)))
    go_loopw [42] (fun i wx => ∃ k : Nat, k <= 8 /\ i = .int .i64 k /\ Wr b Bb Bp (bk ++ Im.bytesOf 4 r.version ++ Im.seats r k) wx /\ Wrote b Bb w6 wx) (fun i _ => 8 - (intOf i).toNat)
    case atStart => exact ⟨0, by omega, rfl, by simpa [Im.seats] using I7.out, K7.out⟩
    case round =>
     obtain ⟨k, hk, rfl, hI, hK⟩ := hrel
     clear I7 P7 IV7 K7 c7
     by_cases hlt : k < 8
     · have hk8 : (k : Int) < 8 := by omega
       have P8 := P6.out.qbD hK IV6.out (by decide) (by decide)
       have hsl := Im.qgz r k
       have hs := HR.out.seat k hlt
       have c8 := qh (qoj (r.peer k) (r.gen k) B (60 + k * 2) 38 _ _ b Bb Bp wr ⟨by have := hs.2; omega, by have := hs.2; omega⟩ hs.1 hbB hI (by rw [List.length_append, List.length_append, Im.qaw]; omega) P8 (Im.qaQ g _ r k hlt) (Im.qbs g _ r k hlt) (by decide) (by decide) (by decide))
       have HSN := qh (show bk ++ Im.bytesOf 4 r.version ++ Im.seats r k ++ (Im.bytesOf 1 (r.peer k + 1) ++ Im.bytesOf 2 (r.gen k)) = bk ++ Im.bytesOf 4 r.version ++ Im.seats r (k + 1) by simp [Im.seats])
       have HK := qh hK
       clear hI hK P8 hs hsl
       go_wp2_with (go_at_call 173; ((with_reducible refine (c8.out).mono ?_); rintro e w9 ⟨rfl, hI, hK⟩; have I9 := qh hI; have K9 := qh (HK.out.trans hK); clear hI hK))
       go_roundw
       case rel => exact ⟨k + 1, by omega, by go_num, by rw [<- HSN.out]; exact I9.out, K9.out⟩
       case measure => simp [intOf]; omega
     · have hk8 : ¬ (k : Int) < 8 := by omega
       obtain rfl : k = 8 := by omega
       have HI := qh hI
       have HK := qh hK
       clear hI hK
       go_wp2
       go_end0
       exact ⟨rfl, by rw [HN.out]; exact HI.out, B6.out.trans (HK.out.to (Nat.le_trans hbw B6.out.size)), Q6.out.wrote HK.out IV6.out⟩
open Go.RowKit
structure Only (B : Nat) (w w' : World) : Prop where
 os : w'.os = w.os
 tape : w'.tape = w.tape
 output : w'.output = w.output
 size : w.heap.size <= w'.heap.size
 block : ∀ k, k < w.heap.size -> k ≠ B -> w'.heap[k]? = w.heap[k]?
section
variable {B : Nat} {w w' w'' : World}
theorem Only.set (w : World) (i : Nat) (u : Value) : Only B w (w.setCell ⟨B, i, none⟩ u) := by
 have h := (Below.refl B w).setCell (p := ⟨B, i, none⟩) (Nat.le_refl _) u
 exact ⟨h.os, h.tape, h.output, h.size, fun k hk hB => Below.heap_setCell w _ u k hB⟩
theorem Only.below {n : Nat} (h : Only B w w') (hn : n <= B) (hs : n <= w.heap.size) : Below n w w' := ⟨h.os, h.tape, h.output, h.size, fun k hk => h.block k (by omega) (by omega)⟩
theorem Only.box {g : Nat} {t : TypeId} {cs : Array Value} (h : Only B w w') (hb : Box w g t cs) (hg : g ≠ B) : Box w' g t cs := ⟨(h.block g hb.lt hg).trans hb.is⟩
end
structure Rg.St where
 g : Gm.G
 r : Ros.R
 A : Option Addr
 c : Nat
def Rg.St.arr (q : Rg.St) : Array Value := Im.cells q.g (.slice q.A q.g.qaa.length q.c) q.r
def Rg.St.cells (q : Rg.St) : List Value := q.arr.toList
theorem Rg.St.size (q : Rg.St) : q.arr.size = 76 := Im.qaf _ _ _
theorem Rg.St.len (q : Rg.St) : q.cells.length = 76 := by unfold Rg.St.cells; rw [Array.length_toList]; exact q.size
theorem Rg.St.first (q : Rg.St) : q.arr[0]? = some (.int .i64 q.g.frame) := by
 unfold Rg.St.arr Im.cells
 rw [Array.getElem?_append_left (by rw [Gm.qaf]; decide)]
 exact Gm.qa1 _ _
def Rg.qbJ (L : List Rg.St) (f : Int) (v : Int) : Prop := (v = -1 /\ ∀ q ∈ L, q.g.frame ≠ f) \/ ∃ i q, v = ((i : Nat) : Int) /\ L[i]? = some q /\ q.g.frame = f /\ ∀ x ∈ L.take i, x.g.frame ≠ f
theorem Rg.qn5 {L : List Rg.St} {f v : Int} {k : Nat} {q : Rg.St} (h : Rg.qbJ L f v) (hq : L[k]? = some q) (hf : q.g.frame = f) (hb : ∀ x ∈ L.take k, x.g.frame ≠ f) : v = k := by
 rcases h with ⟨_, h⟩ | ⟨i, y, rfl, hy, hpy, hby⟩
 · exact absurd hf (h q (List.mem_of_getElem? hq))
 · congr 1
   rcases Nat.lt_trichotomy i k with h | h | h
   · have h2 : (L.take k)[i]? = some y := by rw [List.getElem?_take, if_pos h]; exact hy
     exact absurd hpy (hb y (List.mem_of_getElem? h2))
   · exact h
   · have h2 : (L.take i)[k]? = some q := by rw [List.getElem?_take, if_pos h]; exact hq
     exact absurd hf (hby q (List.mem_of_getElem? h2))
theorem Rg.qmE {L : List Rg.St} {f v : Int} (h : Rg.qbJ L f v) (hb : ∀ x ∈ L, x.g.frame ≠ f) : v = -1 := by
 rcases h with ⟨h, _⟩ | ⟨i, y, rfl, hy, hpy, _⟩
 · exact h
 · exact absurd hpy (hb y (List.mem_of_getElem? hy))
theorem Rg.qmF {L : List Rg.St} {f : Int} {k : Nat} {q : Rg.St} (hq : L[k]? = some q) (hf : q.g.frame ≠ f) (hb : ∀ x ∈ L.take k, x.g.frame ≠ f) : ∀ x ∈ L.take (k + 1), x.g.frame ≠ f := fun y hy => by
 rw [List.take_add_one, hq] at hy
 rcases List.mem_append.1 hy with h | h
 · exact hb y h
 · obtain rfl := List.mem_singleton.1 h; exact hf
theorem qo3 {w : World} {B n : Nat} {ad : Addr} {l : List Rg.St} (h : Lies w B 76 (some ad) n (l.flatMap Rg.St.cells)) (hn : n = l.length) (f : Nat) (hf : f < l.length) (j : Nat) (hj : j < 76) : w.cell? ((ad.add (f * 76)).add j) = (l[f]).cells[j]? := by
 have h1 := qoB (cells := Rg.St.cells) (c := 76) Rg.St.len l f j hf (by omega)
 have h2 : (l[f]).cells[j]? = some ((l[f]).cells[j]'(by rw [Rg.St.len]; exact hj)) := List.getElem?_eq_getElem _
 rw [h2] at h1 ⊢
 have := h.cell ad rfl (by omega) (f * 76 + j) _ h1
 rw [show (ad.add (f * 76)).add j = ad.add (f * 76 + j) from by
  unfold Addr.add
  by_cases hj : j = 0
  · subst hj; simp
  · by_cases hx : f * 76 = 0
    · simp [hj, hx]
    · have : ¬ f * 76 + j = 0 := by omega
      simp [hj, hx, this, Nat.add_assoc]]
 exact this
theorem qqt (L : List Rg.St) (m j : Nat) (hm : m <= L.length) : (L.flatMap Rg.St.cells)[m * 76 + j]? = ((L.drop m).flatMap Rg.St.cells)[j]? := by
 have h : ((L.take m).flatMap Rg.St.cells).length = m * 76 := by
  have := qdE (cells := Rg.St.cells) (c := 76) Rg.St.len (L.take m)
  rw [this, List.length_take]; congr 1; omega
 conv => lhs; rw [<- List.take_append_drop m L, List.flatMap_append]
 rw [List.getElem?_append_right (by omega), h]
 congr 1
 omega
theorem qis {a b : Int} (h : a = b) : Ending.returned (.int .i32 a) = .returned (.int .i32 b) := by rw [h]
theorem qi4 (w : World) (o1 o2 : Obj) : Below w.heap.size w ((w.alloc o1).alloc o2) := ((Below.refl _ _).alloc (Nat.le_refl _) _).alloc (by simp) _
theorem qmV (v : Int) (h : -9223372036854775808 <= v) (h' : v <= 9223372036854775807) (w : World) :
 Calls Tryz.prog 199 #[.int .i64 v] w fun e w' => e = .returned (.int .i32 (Fx.cut v)) /\ Below w.heap.size w w' := by
 have hmf : ∀ (fn : Fn) (first cap : Array Value) (w : World), (Instr.makeFunc fn first cap).run Tryz.prog w = .ok (.func fn first cap) w := fun _ _ _ _ => rfl
 go_enter Tryz.func199, Tryz.ntmps199
 go_wp2
 all_goals
  go_ret
  exact ⟨qis (by unfold Fx.cut; omega), qi4 _ _ _⟩
theorem qmv (v : Int) (h : -9223372036854775808 <= v) (h' : v <= 9223372036854775807) (w : World) :
 Calls Tryz.prog 165 #[.int .i64 v] w fun e w' => e = .returned (.int .i32 (Fx.cut v)) /\ w = w' := by
 go_enter Tryz.func165, Tryz.ntmps165
 go_wp2
 all_goals
  go_ret
  exact ⟨qis (by unfold Fx.cut; omega), rfl⟩
theorem qdU (a lo hi : Int) (wa : -2147483648 <= a /\ a <= 2147483647) (wl : -2147483648 <= lo /\ lo <= 2147483647) (wh : -2147483648 <= hi /\ hi <= 2147483647) (w : World) :
 Calls Tryz.prog 185 #[.int .i32 a, .int .i32 lo, .int .i32 hi] w fun e w' => e = .returned (.int .i32 (Fx.qeY a lo hi)) /\ Below w.heap.size w w' := by
 have hmf : ∀ (fn : Fn) (first cap : Array Value) (w : World), (Instr.makeFunc fn first cap).run Tryz.prog w = .ok (.func fn first cap) w := fun _ _ _ _ => rfl
 go_enter Tryz.func185, Tryz.ntmps185
 go_wp2
 all_goals
  go_ret
  exact ⟨qis (by unfold Fx.qeY; omega), qi4 _ _ _⟩
theorem qjv (a lo hi : Int) (wa : -2147483648 <= a /\ a <= 2147483647) (wl : -2147483648 <= lo /\ lo <= 2147483647) (wh : -2147483648 <= hi /\ hi <= 2147483647) (w : World) :
 Calls Tryz.prog 135 #[.int .i32 a, .int .i32 lo, .int .i32 hi] w fun e w' => e = .returned (.int .i32 (Fx.qeY a lo hi)) /\ w = w' := by
 go_enter Tryz.func135, Tryz.ntmps135
 go_wp2
 all_goals
  go_ret
  exact ⟨qis (by unfold Fx.qeY; omega), rfl⟩
theorem qmW (a b : Int) (wa : -2147483648 <= a /\ a <= 2147483647) (wb : -2147483648 <= b /\ b <= 2147483647) (w : World) :
 Calls Tryz.prog 186 #[.int .i32 a, .int .i32 b] w fun e w' => e = .returned (.int .i32 (Fx.cut (a + b))) /\ Below w.heap.size w w' := by
 go_enter Tryz.func186, Tryz.ntmps186
 go_wp2_with fail
 refine (qmV _ (by omega) (by omega) _).mono ?_
 rintro e w1 ⟨rfl, hb⟩
 go_wp2_with fail
 go_ret
 exact ⟨rfl, by assumption⟩
theorem qmx (a b : Int) (wa : -2147483648 <= a /\ a <= 2147483647) (wb : -2147483648 <= b /\ b <= 2147483647) (w : World) :
 Calls Tryz.prog 136 #[.int .i32 a, .int .i32 b] w fun e w' => e = .returned (.int .i32 (Fx.cut (a + b))) /\ w = w' := by
 go_enter Tryz.func136, Tryz.ntmps136
 go_wp2_with fail
 refine (qmv _ (by omega) (by omega) _).mono ?_
 rintro e w1 ⟨rfl, rfl⟩
 go_wp2_with fail
 go_ret
 exact ⟨rfl, rfl⟩
theorem qdC (a : Int) (wa : -2147483648 <= a /\ a <= 2147483647) (w : World) :
 Calls Tryz.prog 196 #[.int .i32 a] w fun e w' => e = .returned (.int .i32 (Gf.wrap a)) /\ Below w.heap.size w w' := by
 have hmf : ∀ (fn : Fn) (first cap : Array Value) (w : World), (Instr.makeFunc fn first cap).run Tryz.prog w = .ok (.func fn first cap) w := fun _ _ _ _ => rfl
 have hb := Gf.qgn a
 have he := qh (Gf.qhj a)
 go_enter Tryz.func196, Tryz.ntmps196
 go_wp2
 · go_ret
   have he := he.out
   rw [if_pos (by assumption)] at he
   exact ⟨qbL he, qac _ _⟩
 · go_ret
   have he := he.out
   rw [if_neg (by omega)] at he
   exact ⟨qbL he, qac _ _⟩
theorem qdD (a v : Int) (wa : -2147483648 <= a /\ a <= 2147483647) (wv : -2147483648 <= v /\ v <= 2147483647) (w : World) :
 Calls Tryz.prog 159 #[.int .i32 a, .int .i32 v] w fun e w' => e = .returned (.int .i32 (Gf.move a v)) /\ Below w.heap.size w w' := by
 have hmf : ∀ (fn : Fn) (first cap : Array Value) (w : World), (Instr.makeFunc fn first cap).run Tryz.prog w = .ok (.func fn first cap) w := fun _ _ _ _ => rfl
 have hb := Gf.qgn (a + v)
 have he := qh (Gf.qhj (a + v))
 go_enter Tryz.func159, Tryz.ntmps159
 go_wp2
 · go_ret
   have he := he.out
   rw [if_pos (by assumption)] at he
   exact ⟨qbL he, qac _ _⟩
 · go_ret
   have he := he.out
   rw [if_neg (by omega)] at he
   exact ⟨qbL he, qac _ _⟩
theorem qcV (a b : Int) (wa : -2147483648 <= a /\ a <= 2147483647) (wb : -2147483648 <= b /\ b <= 2147483647) (w : World) :
 Calls Tryz.prog 190 #[.int .i32 a, .int .i32 b] w fun e w' => e = .returned (.int .i32 (Gf.gap a b)) /\ Below w.heap.size w w' := by
 have hmf : ∀ (fn : Fn) (first cap : Array Value) (w : World), (Instr.makeFunc fn first cap).run Tryz.prog w = .ok (.func fn first cap) w := fun _ _ _ _ => rfl
 have hb := Gf.qgn (b - a + 8388608)
 have he := qh (Gf.qhj (b - a + 8388608))
 go_enter Tryz.func190, Tryz.ntmps190
 go_wp2
 · go_ret
   have he := he.out
   rw [if_pos (by assumption)] at he
   exact ⟨qbL (by unfold Gf.gap; omega), qac _ _⟩
 · go_ret
   have he := he.out
   rw [if_neg (by omega)] at he
   exact ⟨qbL (by unfold Gf.gap; omega), qac _ _⟩
theorem qct (g : Int) (wg : -2147483648 <= g /\ g <= 2147483647) (w : World) :
 Calls Tryz.prog 189 #[.int .i32 g] w fun e w' => e = .returned (.bool (Gf.near g)) /\ w = w' := by
 go_enter Tryz.func189, Tryz.ntmps189
 go_wp2
 all_goals
  go_ret
  exact ⟨qal (by unfold Gf.near; first | (simp; omega) | simp | omega), rfl⟩
theorem qmS (ax ay bx by' : Int) (wax : -2147483648 <= ax /\ ax <= 2147483647) (way : -2147483648 <= ay /\ ay <= 2147483647) (wbx : -2147483648 <= bx /\ bx <= 2147483647) (wby' : -2147483648 <= by' /\ by' <= 2147483647) (h1 : Gf.near (Gf.gap ax bx) = true) (h2 : Gf.near (Gf.gap ay by') = true) (w : World) :
 Calls Tryz.prog 161 #[.int .i32 ax, .int .i32 ay, .int .i32 bx, .int .i32 by'] w fun e w' => e = .returned (.bool true) /\ Below w.heap.size w w' := by
 have c1 := fun X => qh (qcV ax bx wax wbx X)
 have c2 := fun X => qh (qcV ay by' way wby' X)
 have g1 := Gf.qfM ax bx
 have g2 := Gf.qfM ay by'
 have c3 := fun X => qh (qct (Gf.gap ax bx) (by omega) X)
 have c4 := fun X => qh (qct (Gf.gap ay by') (by omega) X)
 rw [h1] at c3
 rw [h2] at c4
 clear h1 h2
 go_enter Tryz.func161, Tryz.ntmps161
 go_wp2_with (first | (go_at_call 190; first | ((with_reducible refine ((c1 _).out).mono ?_); rintro e w1 ⟨rfl, hb1⟩) | ((with_reducible refine ((c2 _).out).mono ?_); rintro e w2 ⟨rfl, hb2⟩)) | (go_at_call 189; first | ((with_reducible refine ((c3 _).out).mono ?_); rintro e w' ⟨rfl, rfl⟩) | ((with_reducible refine ((c4 _).out).mono ?_); rintro e w' ⟨rfl, rfl⟩)))
 go_ret
 first | exact ⟨rfl, hb1⟩ | exact ⟨rfl, hb1.trans (hb2.mono hb1.size)⟩
theorem qmT (ax ay bx by' : Int) (wax : -2147483648 <= ax /\ ax <= 2147483647) (way : -2147483648 <= ay /\ ay <= 2147483647) (wbx : -2147483648 <= bx /\ bx <= 2147483647) (wby' : -2147483648 <= by' /\ by' <= 2147483647) (h1 : Gf.near (Gf.gap ax bx) = true) (h2 : Gf.near (Gf.gap ay by') = false) (w : World) :
 Calls Tryz.prog 161 #[.int .i32 ax, .int .i32 ay, .int .i32 bx, .int .i32 by'] w fun e w' => e = .returned (.bool false) /\ Below w.heap.size w w' := by
 have c1 := fun X => qh (qcV ax bx wax wbx X)
 have c2 := fun X => qh (qcV ay by' way wby' X)
 have g1 := Gf.qfM ax bx
 have g2 := Gf.qfM ay by'
 have c3 := fun X => qh (qct (Gf.gap ax bx) (by omega) X)
 have c4 := fun X => qh (qct (Gf.gap ay by') (by omega) X)
 rw [h1] at c3
 rw [h2] at c4
 clear h1 h2
 go_enter Tryz.func161, Tryz.ntmps161
 go_wp2_with (first | (go_at_call 190; first | ((with_reducible refine ((c1 _).out).mono ?_); rintro e w1 ⟨rfl, hb1⟩) | ((with_reducible refine ((c2 _).out).mono ?_); rintro e w2 ⟨rfl, hb2⟩)) | (go_at_call 189; first | ((with_reducible refine ((c3 _).out).mono ?_); rintro e w' ⟨rfl, rfl⟩) | ((with_reducible refine ((c4 _).out).mono ?_); rintro e w' ⟨rfl, rfl⟩)))
 go_ret
 first | exact ⟨rfl, hb1⟩ | exact ⟨rfl, hb1.trans (hb2.mono hb1.size)⟩
theorem qoA (ax ay bx by' : Int) (wax : -2147483648 <= ax /\ ax <= 2147483647) (way : -2147483648 <= ay /\ ay <= 2147483647) (wbx : -2147483648 <= bx /\ bx <= 2147483647) (wby' : -2147483648 <= by' /\ by' <= 2147483647) (h1 : Gf.near (Gf.gap ax bx) = false) (w : World) :
 Calls Tryz.prog 161 #[.int .i32 ax, .int .i32 ay, .int .i32 bx, .int .i32 by'] w fun e w' => e = .returned (.bool false) /\ Below w.heap.size w w' := by
 have c1 := fun X => qh (qcV ax bx wax wbx X)
 have c2 := fun X => qh (qcV ay by' way wby' X)
 have g1 := Gf.qfM ax bx
 have g2 := Gf.qfM ay by'
 have c3 := fun X => qh (qct (Gf.gap ax bx) (by omega) X)
 have c4 := fun X => qh (qct (Gf.gap ay by') (by omega) X)
 rw [h1] at c3
 skip
 clear h1 
 go_enter Tryz.func161, Tryz.ntmps161
 go_wp2_with (first | (go_at_call 190; first | ((with_reducible refine ((c1 _).out).mono ?_); rintro e w1 ⟨rfl, hb1⟩) | ((with_reducible refine ((c2 _).out).mono ?_); rintro e w2 ⟨rfl, hb2⟩)) | (go_at_call 189; first | ((with_reducible refine ((c3 _).out).mono ?_); rintro e w' ⟨rfl, rfl⟩) | ((with_reducible refine ((c4 _).out).mono ?_); rintro e w' ⟨rfl, rfl⟩)))
 go_ret
 first | exact ⟨rfl, hb1⟩ | exact ⟨rfl, hb1.trans (hb2.mono hb1.size)⟩
theorem qlb (ax ay bx by' : Int) (wax : -2147483648 <= ax /\ ax <= 2147483647) (way : -2147483648 <= ay /\ ay <= 2147483647) (wbx : -2147483648 <= bx /\ bx <= 2147483647) (wby' : -2147483648 <= by' /\ by' <= 2147483647) (w : World) :
 Calls Tryz.prog 161 #[.int .i32 ax, .int .i32 ay, .int .i32 bx, .int .i32 by'] w fun e w' => e = .returned (.bool (Gf.hits ax ay bx by')) /\ Below w.heap.size w w' := by
 unfold Gf.hits
 cases h1 : Gf.near (Gf.gap ax bx)
 · exact qoA ax ay bx by' wax way wbx wby' h1 w
 · cases h2 : Gf.near (Gf.gap ay by')
   · exact qmT ax ay bx by' wax way wbx wby' h1 h2 w
   · exact qmS ax ay bx by' wax way wbx wby' h1 h2 w
theorem qiO (a : Int) (wa : -128 <= a /\ a <= 127) (w : World) :
 Calls Tryz.prog 188 #[.int .i8 a] w fun e w' => e = .returned (.int .i32 (Gf.way a)) /\ w = w' := by
 go_enter Tryz.func188, Tryz.ntmps188
 go_wp2
 all_goals
  go_ret
  exact ⟨qbL (by unfold Gf.way; (repeat' split) <;> omega), rfl⟩
theorem qmU (x y b : Int) (wx : -128 <= x /\ x <= 127) (wy : -128 <= y /\ y <= 127) (wb : 0 <= b /\ b <= 255) (w : World) :
 Calls Tryz.prog 160 #[.agg #[.int .i8 x, .int .i8 y, .int .u8 b]] w fun e w' => e = .returned (.tuple #[.int .i32 (Gf.aimx x y), .int .i32 (Gf.aimy y)]) /\ Below w.heap.size w w' := by
 go_enter Tryz.func160, Tryz.ntmps160
 go_wp2_with fail
 · go_ret2
   have hy : y = 0 := eq_of_beq (by assumption)
   exact ⟨by simp [Gf.aimx, Gf.aimy, Gf.way, *], qac _ _⟩
 all_goals
  go_quiet ((go_at_call 188; with_reducible exact qb9 (qiO _ (by omega) _)))
  go_wp2
  go_ret2
  exact ⟨by simp_all [Gf.aimx, Gf.aimy, Gf.way], qaA (qac _ _) _⟩
theorem qg4 (v s : Int) (wv : -2147483648 <= v /\ v <= 2147483647) (wss : -128 <= s /\ s <= 127) (w : World) :
 Calls Tryz.prog 158 #[.int .i32 v, .int .i8 s] w fun e w' => e = .returned (.int .i32 (Gf.push v s)) /\ Below w.heap.size w w' := by
 have hs := Gf.qnA wv
 have c1 := fun X => qh (qmW (v - v.tdiv 16) (256 * s) (by omega) (by omega) X)
 have hc := Fx.qpZ (v - v.tdiv 16 + 256 * s)
 have c2 := fun X => qh (qdU (Fx.cut (v - v.tdiv 16 + 256 * s)) (-524288) 524288 hc (by omega) (by omega) X)
 go_enter Tryz.func158, Tryz.ntmps158
 go_wp2_with (first | (go_at_call 186; ((with_reducible refine ((c1 _).out).mono ?_); rintro e w1 ⟨rfl, hb1⟩)) | (go_at_call 185; ((with_reducible refine ((c2 _).out).mono ?_); rintro e w2 ⟨rfl, hb2⟩)))
 go_ret
 exact ⟨rfl, hb1.trans (hb2.mono hb1.size)⟩
theorem qfF (v : Int) (wv : -9223372036854775808 <= v /\ v <= 9223372036854775807) (w : World) :
 Calls Tryz.prog 137 #[.int .i64 v] w fun e w' => e = .returned (.int .i64 (v % 16777216)) /\ w = w' := by
 have hb := Gf.qgn v
 have h2 := Gf.qgn (v.tmod 16777216 + 16777216)
 have he' := qh (Gf.round_eq' v)
 go_enter Tryz.func137, Tryz.ntmps137
 go_wp2
 go_ret
 exact ⟨qbL he'.out, rfl⟩
theorem qgF (a v : Int) (wa : -2147483648 <= a /\ a <= 2147483647) (wv : -2147483648 <= v /\ v <= 2147483647) (w : World) :
 Calls Tryz.prog 111 #[.int .i32 a, .int .i32 v] w fun e w' => e = .returned (.int .i32 (Gf.move a v)) /\ w = w' := by
 have c1 := fun X => qh (qfF (a + v) (by omega) X)
 have hm := Gf.qb3 a v
 have hq : (a + v) % 16777216 = Gf.move a v := rfl
 rw [hq] at c1
 clear hq
 go_enter Tryz.func111, Tryz.ntmps111
 go_wp2_with (go_at_call 137; ((with_reducible refine ((c1 _).out).mono ?_); rintro e w' ⟨rfl, rfl⟩))
 go_ret
 exact ⟨rfl, rfl⟩
theorem qhN (a b : Int) (wa : -2147483648 <= a /\ a <= 2147483647) (wb : -2147483648 <= b /\ b <= 2147483647) (w : World) :
 Calls Tryz.prog 166 #[.int .i32 a, .int .i32 b] w fun e w' => e = .returned (.int .i32 (Gf.gap a b)) /\ w = w' := by
 obtain ⟨r, hr⟩ : ∃ r, r = (b - a) % 16777216 := ⟨_, rfl⟩
 have c1 := fun X => qh (qfF (b - a) (by omega) X)
 rw [<- hr] at c1
 have hb : 0 <= r /\ r < 16777216 := by omega
 have hg := qh (show Gf.gap a b = (if 8388608 <= r then r - 16777216 else r) by unfold Gf.gap; split <;> omega)
 clear hr
 go_enter Tryz.func166, Tryz.ntmps166
 go_wp2_with (go_at_call 137; ((with_reducible refine ((c1 _).out).mono ?_); rintro e w' ⟨rfl, rfl⟩))
 · go_ret
   exact ⟨qbL (by rw [hg.out, if_pos (by assumption)]), rfl⟩
 · go_ret
   exact ⟨qbL (by rw [hg.out, if_neg (by omega)]), rfl⟩
theorem qgG (ax ay bx by' : Int) (wax : -2147483648 <= ax /\ ax <= 2147483647) (way : -2147483648 <= ay /\ ay <= 2147483647) (wbx : -2147483648 <= bx /\ bx <= 2147483647) (wby' : -2147483648 <= by' /\ by' <= 2147483647) (w : World) :
 Calls Tryz.prog 139 #[.int .i32 ax, .int .i32 ay, .int .i32 bx, .int .i32 by'] w fun e w' => e = .returned (.bool (Gf.hits ax ay bx by')) /\ w = w' := by
 obtain ⟨g, hg⟩ : ∃ g, g = Gf.gap ax bx := ⟨_, rfl⟩
 obtain ⟨k, hk⟩ : ∃ k, k = Gf.gap ay by' := ⟨_, rfl⟩
 have c1 := fun X => qh (qhN ax bx wax wbx X)
 have c2 := fun X => qh (qhN ay by' way wby' X)
 rw [<- hg] at c1
 rw [<- hk] at c2
 have g1 : -8388608 <= g /\ g < 8388608 := hg ▸ Gf.qfM ax bx
 have g2 : -8388608 <= k /\ k < 8388608 := hk ▸ Gf.qfM ay by'
 have hh := qh (show Gf.hits ax ay bx by' = (Gf.near g && Gf.near k) by unfold Gf.hits; rw [hg, hk])
 clear hg hk
 go_enter Tryz.func139, Tryz.ntmps139
 go_wp2_with (go_at_call 166; first | ((with_reducible refine ((c1 _).out).mono ?_); rintro e w' ⟨rfl, rfl⟩) | ((with_reducible refine ((c2 _).out).mono ?_); rintro e w' ⟨rfl, rfl⟩))
 all_goals
  go_ret
  exact ⟨qal (by rw [hh.out, Bool.eq_iff_iff]; unfold Gf.near; simp; omega), rfl⟩
theorem qgE (a : Int) (wa : -128 <= a /\ a <= 127) (w : World) :
 Calls Tryz.prog 138 #[.int .i8 a] w fun e w' => e = .returned (.int .i32 (if 0 < a then 1 else if a < 0 then -1 else 0)) /\ w = w' := by
 go_enter Tryz.func138, Tryz.ntmps138
 go_wp2
 all_goals
  go_ret
  exact ⟨qbL (by (repeat' split) <;> omega), rfl⟩
theorem qmw (x y b : Int) (wx : -128 <= x /\ x <= 127) (wy : -128 <= y /\ y <= 127) (wb : 0 <= b /\ b <= 255) (w : World) :
 Calls Tryz.prog 112 #[.agg #[.int .i8 x, .int .i8 y, .int .u8 b]] w fun e w' => e = .returned (.tuple #[.int .i32 (Gf.aimx x y), .int .i32 (Gf.aimy y)]) /\ Below w.heap.size w w' := by
 obtain ⟨r, hr⟩ : ∃ r : Int, r = (if 0 < x then 1 else if x < 0 then -1 else 0) := ⟨_, rfl⟩
 obtain ⟨s, hs⟩ : ∃ s : Int, s = (if 0 < y then 1 else if y < 0 then -1 else 0) := ⟨_, rfl⟩
 have c1 := fun X => qh (qgE x wx X)
 have c2 := fun X => qh (qgE y wy X)
 rw [<- hr] at c1
 rw [<- hs] at c2
 have b1 : -1 <= r /\ r <= 1 := by rw [hr]; (repeat' split) <;> omega
 have b2 : -1 <= s /\ s <= 1 := by rw [hs]; (repeat' split) <;> omega
 have hrH := qh hr
 have hsH := qh hs
 clear hr hs
 go_enter Tryz.func112, Tryz.ntmps112
 go_wp2_with fail
 go_quiet ((first | (go_at_call 138; with_reducible exact qb9 (c1 _).out) | (go_at_call 138; with_reducible exact qb9 (c2 _).out)))
 go_wp2
 all_goals
  go_ret2
  have e1 := hrH.out
  have e2 := hsH.out
  refine ⟨?_, qaA (qac _ _) _⟩
  have ex : Gf.aimx x y = (if r = 0 /\ s = 0 then 1 else r) * 393216 := by
   unfold Gf.aimx Gf.way; rw [e1, e2]; (repeat' split) <;> omega
  have ey : Gf.aimy y = s * 393216 := by
   unfold Gf.aimy Gf.way; rw [e2]; (repeat' split) <;> omega
  rw [ex, ey]
  clear e1 e2 ex ey
  clear hrH hsH c1 c2
  refine qqd ?_ (by omega)
  first
   | (have hr0 : ¬ r = 0 := by assumption
      rw [if_neg (fun h => hr0 h.1)]; omega)
   | (have hs1 : (s == 0) = false := by assumption
      have hs0 : s ≠ 0 := by simpa using hs1
      rw [if_neg (fun h => hs0 h.2)]; omega)
   | (have hs0 : s = 0 := eq_of_beq (by assumption)
      rw [if_pos ⟨by assumption, hs0⟩]; rfl)
theorem qkO (v s : Int) (wv : -2147483648 <= v /\ v <= 2147483647) (wss : -128 <= s /\ s <= 127) (w : World) :
 Calls Tryz.prog 110 #[.int .i32 v, .int .i8 s] w fun e w' => e = .returned (.int .i32 (Gf.push v s)) /\ w = w' := by
 have hs := Gf.qnA wv
 have c1 := fun X => qh (qmx (v - v.tdiv 16) (256 * s) (by omega) (by omega) X)
 have hc := Fx.qpZ (v - v.tdiv 16 + 256 * s)
 have c2 := fun X => qh (qjv (Fx.cut (v - v.tdiv 16 + 256 * s)) (-524288) 524288 hc (by omega) (by omega) X)
 go_enter Tryz.func110, Tryz.ntmps110
 go_wp2_with (first | (go_at_call 136; ((with_reducible refine ((c1 _).out).mono ?_); rintro e w' ⟨rfl, rfl⟩)) | (go_at_call 135; ((with_reducible refine ((c2 _).out).mono ?_); rintro e w' ⟨rfl, rfl⟩)))
 go_ret
 exact ⟨rfl, rfl⟩
theorem qdr (i : Int) (wi : -9223372036854775808 <= i /\ i <= 9223372036854775807) (w : World) :
 Calls Tryz.prog 150 #[.int .i64 i] w fun e w' => e = .returned (.bool (decide (0 <= i) && decide (i < 8))) /\ w = w' := by
 go_enter Tryz.func150, Tryz.ntmps150
 go_wp2
 all_goals
  go_ret
  exact ⟨qal (by rw [Bool.eq_iff_iff]; simp; omega), rfl⟩
theorem qnj {x : Int} (h : Gm.inF x) : Gf.wrap x = x := by unfold Gm.inF at h; unfold Gf.wrap; omega
theorem qi5 (x y : Int) (hx : Gm.inF x) (hy : Gm.inF y) (w : World) :
 Calls Tryz.prog 181 #[.int .i32 x, .int .i32 y] w fun e w' => e = .returned (.bool true) /\ Below w.heap.size w w' := by
 have c1 := fun X => qh (qdC x (by unfold Gm.inF at hx; omega) X)
 have c2 := fun X => qh (qdC y (by unfold Gm.inF at hy; omega) X)
 rw [qnj hx] at c1
 rw [qnj hy] at c2
 go_enter Tryz.func181, Tryz.ntmps181
 go_wp2_with (go_at_call 196; first | ((with_reducible refine ((c1 _).out).mono ?_); rintro e w1 ⟨rfl, hb1⟩; clear c1) | ((with_reducible refine ((c2 _).out).mono ?_); rintro e w2 ⟨rfl, hb2⟩))
 go_ret
 exact ⟨rfl, hb1.trans (hb2.mono hb1.size)⟩
theorem ql0 {a m : Int} (h : Gm.slow a m) : Fx.qeY a (-m) m = a := by unfold Gm.slow at h; unfold Fx.qeY; omega
theorem qhE (x y m : Int) (hm : 0 <= m /\ m <= 1000000) (hx : Gm.slow x m) (hy : Gm.slow y m) (w : World) :
 Calls Tryz.prog 182 #[.int .i32 x, .int .i32 y, .int .i32 m] w fun e w' => e = .returned (.bool true) /\ Below w.heap.size w w' := by
 have c1 := fun X => qh (qdU x (-m) m (by unfold Gm.slow at hx; omega) (by omega) (by omega) X)
 have c2 := fun X => qh (qdU y (-m) m (by unfold Gm.slow at hy; omega) (by omega) (by omega) X)
 rw [ql0 hx] at c1
 rw [ql0 hy] at c2
 go_enter Tryz.func182, Tryz.ntmps182
 go_wp2_with (go_at_call 185; first | ((with_reducible refine ((c1 _).out).mono ?_); rintro e w1 ⟨rfl, hb1⟩; clear c1) | ((with_reducible refine ((c2 _).out).mono ?_); rintro e w2 ⟨rfl, hb2⟩))
 go_ret
 exact ⟨rfl, hb1.trans (hb2.mono hb1.size)⟩
theorem qk1 (s : Gm.Ship) (h : Gm.qaX s) (w : World) :
 Calls Tryz.prog 154 #[.agg s.cells.toArray] w fun e w' => e = .returned (.bool true) /\ Below w.heap.size w w' := by
 obtain ⟨on, x, y, vx, vy, cool, score⟩ := s
 obtain ⟨o1, o2, o3, o4, o5, o6, o7, o8, o9⟩ := h
 dsimp only at o1 o2 o3 o4 o5 o6 o7 o8 o9
 simp only [Gm.Ship.cells]
 rcases o1 with rfl | o1
 · have c1 := fun X => qh (qi5 x y o2 o3 X)
   have c2 := fun X => qh (qhE vx vy 524288 (by omega) o4 o5 X)
   clear o2 o3 o4 o5
   go_enter Tryz.func154, Tryz.ntmps154
   go_wp2_with (first | (go_at_call 181; ((with_reducible refine ((c1 _).out).mono ?_); rintro e w1 ⟨rfl, hb1⟩; have B1 := (Box.made w 27 #[.bool true, .int .i32 x, .int .i32 y, .int .i32 vx, .int .i32 vy, .int .i64 cool, .int .i64 score]).below hb1 (by simp); have K1 := B1.cell)) | (go_at_call 182; ((with_reducible refine ((c2 _).out).mono ?_); rintro e w2 ⟨rfl, hb2⟩; have B2 := B1.below hb2 B1.lt; have K2 := B2.cell; clear K1)))
   go_ret
   exact ⟨rfl, ((qac w _).trans (hb1.mono (by simp))).trans (hb2.mono (by have := hb1.size; simp at this; omega))⟩
 · injection o1 with z1 z2 z3 z4 z5 z6 z7
   subst z1 z2 z3 z4 z5 z6 z7
   clear o2 o3 o4 o5
   go_enter Tryz.func154, Tryz.ntmps154
   go_wp2
   go_ret
   exact ⟨rfl, qac _ _⟩
theorem qkZ (s : Gm.Shot) (h : Gm.qa7 s) (w : World) :
 Calls Tryz.prog 156 #[.agg s.cells.toArray] w fun e w' => e = .returned (.bool true) /\ Below w.heap.size w w' := by
 obtain ⟨owner, x, y, vx, vy, left⟩ := s
 obtain ⟨o1, o2, o3, o4, o5, o6, o7, o8⟩ := h
 dsimp only at o1 o2 o3 o4 o5 o6 o7 o8
 simp only [Gm.Shot.cells]
 have c0 := fun X => qh (qdr owner (by omega) X)
 rw [decide_eq_true o1, decide_eq_true o2, Bool.and_self] at c0
 have c1 := fun X => qh (qi5 x y o3 o4 X)
 have c2 := fun X => qh (qhE vx vy 393216 (by omega) o5 o6 X)
 clear o3 o4 o5 o6
 go_enter Tryz.func156, Tryz.ntmps156
 go_wp2_with (first | (go_at_call 150; ((with_reducible refine ((c0 _).out).mono ?_); rintro e w0 ⟨rfl, rfl⟩)) | (go_at_call 181; ((with_reducible refine ((c1 _).out).mono ?_); rintro e w1 ⟨rfl, hb1⟩; have B1 := (Box.made w 80 #[.int .i64 owner, .int .i32 x, .int .i32 y, .int .i32 vx, .int .i32 vy, .int .i64 left]).below hb1 (by simp); have K1 := B1.cell)) | (go_at_call 182; ((with_reducible refine ((c2 _).out).mono ?_); rintro e w2 ⟨rfl, hb2⟩; have B2 := B1.below hb2 B1.lt; have K2 := B2.cell; clear K1)))
 go_ret
 exact ⟨rfl, ((qac w _).trans (hb1.mono (by simp))).trans (hb2.mono (by have := hb1.size; simp at this; omega))⟩
theorem qjd (f : Nat -> Gm.Ship) (k j : Nat) (hk : k < 8) (hj : j < 7) : (Gm.qbd f)[k * 7 + j]? = (f k).cells[j]? := by
 match k, hk with
 | 0, _ => match j, hj with | 0, _ | 1, _ | 2, _ | 3, _ | 4, _ | 5, _ | 6, _ => rfl
 | 1, _ => match j, hj with | 0, _ | 1, _ | 2, _ | 3, _ | 4, _ | 5, _ | 6, _ => rfl
 | 2, _ => match j, hj with | 0, _ | 1, _ | 2, _ | 3, _ | 4, _ | 5, _ | 6, _ => rfl
 | 3, _ => match j, hj with | 0, _ | 1, _ | 2, _ | 3, _ | 4, _ | 5, _ | 6, _ => rfl
 | 4, _ => match j, hj with | 0, _ | 1, _ | 2, _ | 3, _ | 4, _ | 5, _ | 6, _ => rfl
 | 5, _ => match j, hj with | 0, _ | 1, _ | 2, _ | 3, _ | 4, _ | 5, _ | 6, _ => rfl
 | 6, _ => match j, hj with | 0, _ | 1, _ | 2, _ | 3, _ | 4, _ | 5, _ | 6, _ => rfl
 | 7, _ => match j, hj with | 0, _ | 1, _ | 2, _ | 3, _ | 4, _ | 5, _ | 6, _ => rfl
theorem qlJ {w : World} {B : Nat} {A : Option Addr} {f : Nat -> Gm.Ship} (h : Lies w B 7 A 8 (Gm.qbd f)) (k : Nat) (hk : k < 8) :
 ∃ ad, A = some ad /\ ad.block < B /\ w.cell? (ad.add (k * 7)) = some (.bool (f k).on) /\ w.cell? ⟨(ad.add (k * 7)).block, (ad.add (k * 7)).off + 1, none⟩ = some (.int .i32 (f k).x) /\
  w.cell? ⟨(ad.add (k * 7)).block, (ad.add (k * 7)).off + 2, none⟩ = some (.int .i32 (f k).y) /\ w.cell? ⟨(ad.add (k * 7)).block, (ad.add (k * 7)).off + 3, none⟩ = some (.int .i32 (f k).vx) /\
  w.cell? ⟨(ad.add (k * 7)).block, (ad.add (k * 7)).off + 4, none⟩ = some (.int .i32 (f k).vy) /\ w.cell? ⟨(ad.add (k * 7)).block, (ad.add (k * 7)).off + 5, none⟩ = some (.int .i64 (f k).cool) /\
  w.cell? ⟨(ad.add (k * 7)).block, (ad.add (k * 7)).off + 6, none⟩ = some (.int .i64 (f k).score) := by
 obtain ⟨ad, e, hb⟩ := h.start (by omega)
 have hc := h.cell ad e (by omega)
 have hj : ∀ j v, j < 7 -> (f k).cells[j]? = some v -> w.cell? ((ad.add (k * 7)).add j) = some v := fun j v hj hv => by
  rw [qhm]
  exact hc _ _ ((qjd f k j hk hj).trans hv)
 refine ⟨ad, e, hb, ?_, ?_, ?_, ?_, ?_, ?_, ?_⟩
 · have := hj 0 _ (by omega) rfl; rwa [show (ad.add (k * 7)).add 0 = ad.add (k * 7) from by unfold Addr.add; rfl] at this
 · have := hj 1 _ (by omega) rfl; rwa [qci _ 1 (by omega)] at this
 · have := hj 2 _ (by omega) rfl; rwa [qci _ 2 (by omega)] at this
 · have := hj 3 _ (by omega) rfl; rwa [qci _ 3 (by omega)] at this
 · have := hj 4 _ (by omega) rfl; rwa [qci _ 4 (by omega)] at this
 · have := hj 5 _ (by omega) rfl; rwa [qci _ 5 (by omega)] at this
 · have := hj 6 _ (by omega) rfl; rwa [qci _ 6 (by omega)] at this
theorem qgy {w : World} {B : Nat} {g : Gm.G} {s : Value} (h : Box w B 31 (Gm.cells g s)) : Lies w w.heap.size 7 (some ⟨B, 2, none⟩) 8 (Gm.qbd g.ship) := by
 refine ⟨rfl, fun _ => ⟨_, rfl, h.lt⟩, fun ad e _ j u hu => ?_⟩
 injection e with e
 subst e
 have hj : j < 56 := by have := (List.getElem?_eq_some_iff.1 hu).1; rwa [Gm.qeD] at this
 have hadd : (⟨B, 2, none⟩ : Addr).add j = ⟨B, 2 + j, none⟩ := by unfold Addr.add; split <;> simp_all
 rw [hadd, h.cell, Gm.qlo _ _ _ hj, hu]
theorem qfT (s : Gm.Ship) (h : Gm.qaX s) (Bf : Nat) (w : World) (hf : Box w Bf 205 #[.func (.func 154) #[] #[]]) :
 Calls Tryz.prog 180 #[.agg s.cells.toArray, .pointer (some ⟨Bf, 0, none⟩)] w fun e w' => e = .returned (.bool false) /\ Below w.heap.size w w' := by
 have c1 := fun X => qh (qk1 s h X)
 have hK : ∀ o, (w.alloc o).cell? ⟨Bf, 0, none⟩ = some (.func (.func 154) #[] #[]) := fun o => (hf.alloc o).cell 0
 obtain ⟨on, x, y, vx, vy, cool, score⟩ := s
 simp only [Gm.Ship.cells] at c1 ⊢
 clear h hf
 go_enter Tryz.func180, Tryz.ntmps180
 go_wp2_with (go_at_call 154; ((with_reducible refine ((c1 _).out).mono ?_); rintro e w1 ⟨rfl, hb1⟩))
 go_ret
 exact ⟨rfl, (qac w _).trans (hb1.mono (by simp))⟩
theorem qiF (f : Nat -> Gm.Ship) (A : Option Addr) (c : Nat) (Bf : Nat) (w : World) (hok : ∀ i, i < 8 -> Gm.qaX (f i)) (hr : Lies w w.heap.size 7 A 8 (Gm.qbd f)) (hf : Box w Bf 205 #[.func (.func 154) #[] #[]]) :
 Calls Tryz.prog 195 #[.slice A 8 c, .func (.func 180) #[] #[.pointer (some ⟨Bf, 0, none⟩)]] w fun e w' => e = .returned (.int .i64 (-1)) /\ Below w.heap.size w w' := by
 go_enter Tryz.func195, Tryz.ntmps195
 go_wp2
 go_loopw [8] (fun i wr => ∃ k : Nat, k <= 8 /\ i = .int .i64 k /\ Below w.heap.size w wr) (fun i _ => 8 - (intOf i).toNat)
 case atStart => exact ⟨0, by omega, rfl, Below.refl _ _⟩
 case round =>
  obtain ⟨k, hk, rfl, hb⟩ := hrel
  by_cases hlt : k < 8
  · have hbs := hb.size
    obtain ⟨ad, rfl, hbl, e0, e1, e2, e3, e4, e5, e6⟩ := qlJ (hr.below hb) k hlt
    have ho := hok k hlt
    have cc := fun X hX => qh (qfT (f k) ho Bf X hX)
    have hfb := hf.below hb hf.lt
    generalize f k = s at e0 e1 e2 e3 e4 e5 e6 ho cc
    obtain ⟨on, x, y, vx, vy, cool, score⟩ := s
    dsimp only at e0 e1 e2 e3 e4 e5 e6
    simp only [Gm.Ship.cells] at cc
    have hkn : (k : Int) < 8 := by omega
    have HB := qh hb
    have HF := qh hfb
    clear hr hok ho hb hf hfb
    go_wp2_with (go_at_call 180; ((with_reducible refine ((cc _ (by first | exact HF.out)).out).mono ?_); rintro e w1 ⟨rfl, hb1⟩))
    go_roundw
    case rel => exact ⟨k + 1, by omega, by go_num, HB.out.trans (hb1.mono HB.out.size)⟩
    case measure => simp [intOf]; omega
  · have hkn : ¬ (k : Int) < 8 := by omega
    clear hr
    go_wp2
    go_ret
    exact ⟨rfl, hb⟩
theorem qhd (f : Nat -> Gm.Ship) (A : Option Addr) (c : Nat) (Bf : Nat) (w : World) (hok : ∀ i, i < 8 -> Gm.qaX (f i)) (hr : Lies w w.heap.size 7 A 8 (Gm.qbd f)) (hf : Box w Bf 205 #[.func (.func 154) #[] #[]]) :
 Calls Tryz.prog 179 #[.slice A 8 c, .func (.func 180) #[] #[.pointer (some ⟨Bf, 0, none⟩)]] w fun e w' => e = .returned (.bool false) /\ Below w.heap.size w w' := by
 have c1 := qh (qiF f A c Bf w hok hr hf)
 clear hr hok hf
 go_enter Tryz.func179, Tryz.ntmps179
 go_wp2_with (go_at_call 195; ((with_reducible refine ((c1).out).mono ?_); rintro e w1 ⟨rfl, hb1⟩))
 go_ret
 exact ⟨rfl, hb1⟩
theorem qhk (f : Nat -> Gm.Ship) (A : Option Addr) (c : Nat) (w : World) (hok : ∀ i, i < 8 -> Gm.qaX (f i)) (hr : Lies w w.heap.size 7 A 8 (Gm.qbd f)) :
 Calls Tryz.prog 153 #[.slice A 8 c, .func (.func 154) #[] #[]] w fun e w' => e = .returned (.bool true) /\ Below w.heap.size w w' := by
 have hmf : ∀ (fn : Fn) (first cap : Array Value) (w : World), (Instr.makeFunc fn first cap).run Tryz.prog w = .ok (.func fn first cap) w := fun _ _ _ _ => rfl
 have hb0 := qac w (.cells #[.func (.func 154) #[] #[]] 205)
 have c1 := qh (qhd f A c w.heap.size _ hok ((hr.below hb0).wider hb0.size) (Box.made w _ _))
 have hbz := qh hb0
 clear hr hok hb0
 go_enter Tryz.func153, Tryz.ntmps153
 go_wp2_with (go_at_call 179; ((with_reducible refine ((c1).out).mono ?_); rintro e w1 ⟨rfl, hb1⟩))
 go_ret
 exact ⟨rfl, hbz.out.trans (hb1.mono hbz.out.size)⟩
theorem qfS (s : Gm.Shot) (h : Gm.qa7 s) (Bf : Nat) (w : World) (hf : Box w Bf 207 #[.func (.func 156) #[] #[]]) :
 Calls Tryz.prog 184 #[.agg s.cells.toArray, .pointer (some ⟨Bf, 0, none⟩)] w fun e w' => e = .returned (.bool false) /\ Below w.heap.size w w' := by
 have c1 := fun X => qh (qkZ s h X)
 have hK : ∀ o, (w.alloc o).cell? ⟨Bf, 0, none⟩ = some (.func (.func 156) #[] #[]) := fun o => (hf.alloc o).cell 0
 obtain ⟨owner, x, y, vx, vy, left⟩ := s
 simp only [Gm.Shot.cells] at c1 ⊢
 clear h hf
 go_enter Tryz.func184, Tryz.ntmps184
 go_wp2_with (go_at_call 156; ((with_reducible refine ((c1 _).out).mono ?_); rintro e w1 ⟨rfl, hb1⟩))
 go_ret
 exact ⟨rfl, (qac w _).trans (hb1.mono (by simp))⟩
theorem qiD (l : List Gm.Shot) (A : Option Addr) (n c : Nat) (Bf : Nat) (w : World) (hok : ∀ i (h : i < l.length), Gm.qa7 l[i]) (hn : n = l.length) (hn32 : n <= 32) (hr : Lies w w.heap.size 6 A n (Gm.qad l)) (hf : Box w Bf 207 #[.func (.func 156) #[] #[]]) :
 Calls Tryz.prog 197 #[.slice A n c, .func (.func 184) #[] #[.pointer (some ⟨Bf, 0, none⟩)]] w fun e w' => e = .returned (.int .i64 (-1)) /\ Below w.heap.size w w' := by
 have hN := qh hn
 clear hn
 go_enter Tryz.func197, Tryz.ntmps197
 go_wp2
 go_loopw [8] (fun i wr => ∃ k : Nat, k <= n /\ i = .int .i64 k /\ Below w.heap.size w wr) (fun i _ => n - (intOf i).toNat)
 case atStart => exact ⟨0, by omega, rfl, Below.refl _ _⟩
 case round =>
  obtain ⟨k, hk, rfl, hb⟩ := hrel
  by_cases hlt : k < n
  · have hbs := hb.size
    obtain ⟨ad, rfl, hbl, e0, e1, e2, e3, e4, e5⟩ := qd0 (hr.below hb) hN.out k (by have := hN.out; omega)
    have ho := hok k (by have := hN.out; omega)
    have cc := fun X hX => qh (qfS (l[k]'(by have := hN.out; omega)) ho Bf X hX)
    have hfb := hf.below hb hf.lt
    generalize l[k]'(by have := hN.out; omega) = s at e0 e1 e2 e3 e4 e5 ho cc
    obtain ⟨owner, x, y, vx, vy, left⟩ := s
    dsimp only at e0 e1 e2 e3 e4 e5
    simp only [Gm.Shot.cells] at cc
    have hkn : (k : Int) < n := by omega
    have HB := qh hb
    have HF := qh hfb
    clear hr hok ho hb hf hfb
    go_wp2_with (go_at_call 184; ((with_reducible refine ((cc _ (by first | exact HF.out)).out).mono ?_); rintro e w1 ⟨rfl, hb1⟩))
    go_roundw
    case rel => exact ⟨k + 1, by omega, by go_num, HB.out.trans (hb1.mono HB.out.size)⟩
    case measure => simp [intOf]; omega
  · have hkn : ¬ (k : Int) < n := by omega
    clear hr
    go_wp2
    go_ret
    exact ⟨rfl, hb⟩
theorem qhc (l : List Gm.Shot) (A : Option Addr) (n c : Nat) (Bf : Nat) (w : World) (hok : ∀ i (h : i < l.length), Gm.qa7 l[i]) (hn : n = l.length) (hn32 : n <= 32) (hr : Lies w w.heap.size 6 A n (Gm.qad l)) (hf : Box w Bf 207 #[.func (.func 156) #[] #[]]) :
 Calls Tryz.prog 183 #[.slice A n c, .func (.func 184) #[] #[.pointer (some ⟨Bf, 0, none⟩)]] w fun e w' => e = .returned (.bool false) /\ Below w.heap.size w w' := by
 have c1 := qh (qiD l A n c Bf w hok hn hn32 hr hf)
 clear hr hok hf hn
 go_enter Tryz.func183, Tryz.ntmps183
 go_wp2_with (go_at_call 197; ((with_reducible refine ((c1).out).mono ?_); rintro e w1 ⟨rfl, hb1⟩))
 go_ret
 exact ⟨rfl, hb1⟩
theorem qly (l : List Gm.Shot) (A : Option Addr) (n c : Nat) (w : World) (hok : ∀ i (h : i < l.length), Gm.qa7 l[i]) (hn : n = l.length) (hn32 : n <= 32) (hr : Lies w w.heap.size 6 A n (Gm.qad l)) :
 Calls Tryz.prog 155 #[.slice A n c, .func (.func 156) #[] #[]] w fun e w' => e = .returned (.bool true) /\ Below w.heap.size w w' := by
 have hmf : ∀ (fn : Fn) (first cap : Array Value) (w : World), (Instr.makeFunc fn first cap).run Tryz.prog w = .ok (.func fn first cap) w := fun _ _ _ _ => rfl
 have hb0 := qac w (.cells #[.func (.func 156) #[] #[]] 207)
 have c1 := qh (qhc l A n c w.heap.size _ hok hn hn32 ((hr.below hb0).wider hb0.size) (Box.made w _ _))
 have hbz := qh hb0
 clear hr hok hb0 hn
 go_enter Tryz.func155, Tryz.ntmps155
 go_wp2_with (go_at_call 183; ((with_reducible refine ((c1).out).mono ?_); rintro e w1 ⟨rfl, hb1⟩))
 go_ret
 exact ⟨rfl, hbz.out.trans (hb1.mono hbz.out.size)⟩
theorem qgW (g : Gm.G) (A : Option Addr) (n c : Nat) (w : World) (hg : Gm.ok g) (hn : n = g.qaa.length) (hr : Lies w w.heap.size 6 A n (Gm.qad g.qaa)) :
 Calls Tryz.prog 124 #[.agg (Gm.cells g (.slice A n c))] w fun e w' => e = .returned (.bool true) /\ Below w.heap.size w w' := by
 obtain ⟨hf1, hf2, hl, hships, hshots⟩ := hg
 have d1 : decide (g.frame < 0) = false := decide_eq_false (by omega)
 have d2 : decide (1048576 < g.frame) = false := decide_eq_false (by omega)
 have d3 : decide (32 < (n : Int)) = false := decide_eq_false (by omega)
 have B0 := Box.made w 31 (Gm.cells g (.slice A n c))
 have hb0 := qac w (.cells (Gm.cells g (.slice A n c)) 31)
 have c1 := qh (qhk g.ship (some ⟨w.heap.size, 2, none⟩) 8 _ hships (qgy B0))
 have c2 := fun X (hX : Below w.heap.size w X) => qh (qly g.qaa A n c X hshots hn (by omega) ((hr.below hX).wider hX.size))
 have hc : ∀ j, (w.alloc (.cells (Gm.cells g (.slice A n c)) 31)).cell? ⟨w.heap.size, j, none⟩ = (Gm.cells g (.slice A n c))[j]? := fun j => B0.cell j
 have h0 := Gm.qa1 g (.slice A n c)
 have h58 := Gm.qbc g (.slice A n c)
 have BB := qh B0
 have HB := qh hb0
 clear hr hships hshots B0 hb0 hn
 go_enter Tryz.func124, Tryz.ntmps124
 go_wp2_with (first | (go_at_call 153; ((with_reducible refine ((c1).out).mono ?_); rintro e w1 ⟨rfl, hb1⟩; have hc1 := (BB.out.below hb1 BB.out.lt).cell; have HB1 := qh (HB.out.trans (hb1.mono HB.out.size)))) | (go_at_call 155; ((with_reducible refine ((c2 _ (HB1.out)).out).mono ?_); rintro e w2 ⟨rfl, hb2⟩)))
 go_ret
 exact ⟨rfl, HB1.out.trans (hb2.mono HB1.out.size)⟩
theorem ifs7 (w : World) (a b c d e f g : Bool) : (if a = true then if b = true then if c = true then if d = true then if e = true then if f = true then if g = true then Result.ok true w else Result.ok false w else Result.ok false w else Result.ok false w else Result.ok false w else Result.ok false w else Result.ok false w else Result.ok false w) = Result.ok (a && (b && (c && (d && (e && (f && g)))))) w := by
 cases a <;> cases b <;> cases c <;> cases d <;> cases e <;> cases f <;> cases g <;> rfl
def Gm.inB (a : Int) : Bool := decide (Gf.wrap a = a)
theorem Gm.qiI {a : Int} : Gm.inB a = true ↔ Gm.inF a := by unfold Gm.inB Gm.inF Gf.wrap; simp; omega
def Gm.qdn (a m : Int) : Bool := decide (Fx.qeY a (-m) m = a)
theorem Gm.qeC {a m : Int} (hm : 0 <= m) : Gm.qdn a m = true ↔ Gm.slow a m := by unfold Gm.qdn Gm.slow Fx.qeY; simp; omega
theorem qi6 (x y : Int) (wx : -2147483648 <= x /\ x <= 2147483647) (wy : -2147483648 <= y /\ y <= 2147483647) (w : World) :
 Calls Tryz.prog 181 #[.int .i32 x, .int .i32 y] w fun e w' => e = .returned (.bool (Gm.inB x && Gm.inB y)) /\ Below w.heap.size w w' := by
 have c1 := fun X => qh (qdC x wx X)
 have c2 := fun X => qh (qdC y wy X)
 have hx : Hid (Gm.inB x = decide (Gf.wrap x = x)) := qh rfl
 have hy : Hid (Gm.inB y = decide (Gf.wrap y = y)) := qh rfl
 generalize Gf.wrap x = X at *
 generalize Gf.wrap y = Y at *
 by_cases h1 : X = x
 · have b1 : (X == x) = true := by simpa using h1
   by_cases h2 : Y = y
   · have b2 : (Y == y) = true := by simpa using h2
     have HE := qh (show (Gm.inB x && Gm.inB y) = true by rw [hx.out, hy.out]; simp [h1, h2])
     clear h1 h2
     go_enter Tryz.func181, Tryz.ntmps181
     go_wp2_with (go_at_call 196; first | ((with_reducible refine ((c1 _).out).mono ?_); rintro e w1 ⟨rfl, hb1⟩; clear c1) | ((with_reducible refine ((c2 _).out).mono ?_); rintro e w2 ⟨rfl, hb2⟩))
     go_ret
     exact ⟨qal HE.out.symm, hb1.trans (hb2.mono hb1.size)⟩
   · have b2 : (Y == y) = false := by simpa using h2
     have HE := qh (show (Gm.inB x && Gm.inB y) = false by rw [hx.out, hy.out]; simp [h1, h2])
     clear h1 h2
     go_enter Tryz.func181, Tryz.ntmps181
     go_wp2_with (go_at_call 196; first | ((with_reducible refine ((c1 _).out).mono ?_); rintro e w1 ⟨rfl, hb1⟩; clear c1) | ((with_reducible refine ((c2 _).out).mono ?_); rintro e w2 ⟨rfl, hb2⟩))
     go_ret
     exact ⟨qal HE.out.symm, hb1.trans (hb2.mono hb1.size)⟩
 · have b1 : (X == x) = false := by simpa using h1
   have HE := qh (show (Gm.inB x && Gm.inB y) = false by rw [hx.out]; simp [h1])
   clear h1
   go_enter Tryz.func181, Tryz.ntmps181
   go_wp2_with (go_at_call 196; first | ((with_reducible refine ((c1 _).out).mono ?_); rintro e w1 ⟨rfl, hb1⟩; clear c1) | ((with_reducible refine ((c2 _).out).mono ?_); rintro e w2 ⟨rfl, hb2⟩))
   go_ret
   exact ⟨qal HE.out.symm, hb1⟩
theorem qhF (x y m : Int) (hm : 0 <= m /\ m <= 1000000) (wx : -2147483648 <= x /\ x <= 2147483647) (wy : -2147483648 <= y /\ y <= 2147483647) (w : World) :
 Calls Tryz.prog 182 #[.int .i32 x, .int .i32 y, .int .i32 m] w fun e w' => e = .returned (.bool (Gm.qdn x m && Gm.qdn y m)) /\ Below w.heap.size w w' := by
 have c1 := fun X => qh (qdU x (-m) m wx (by omega) (by omega) X)
 have c2 := fun X => qh (qdU y (-m) m wy (by omega) (by omega) X)
 have hx : Hid (Gm.qdn x m = decide (Fx.qeY x (-m) m = x)) := qh rfl
 have hy : Hid (Gm.qdn y m = decide (Fx.qeY y (-m) m = y)) := qh rfl
 have hng : IntKind.i32.wrap (-m) = -m := by rw [IntKind.wrap_i32]; omega
 generalize Fx.qeY x (-m) m = X at *
 generalize Fx.qeY y (-m) m = Y at *
 by_cases h1 : X = x
 · have b1 : (X == x) = true := by simpa using h1
   by_cases h2 : Y = y
   · have b2 : (Y == y) = true := by simpa using h2
     have HE := qh (show (Gm.qdn x m && Gm.qdn y m) = true by rw [hx.out, hy.out]; simp [h1, h2])
     clear h1 h2
     go_enter Tryz.func182, Tryz.ntmps182
     go_wp2_with (go_at_call 185; first | ((with_reducible refine ((c1 _).out).mono ?_); rintro e w1 ⟨rfl, hb1⟩; clear c1) | ((with_reducible refine ((c2 _).out).mono ?_); rintro e w2 ⟨rfl, hb2⟩))
     go_ret
     exact ⟨qal HE.out.symm, hb1.trans (hb2.mono hb1.size)⟩
   · have b2 : (Y == y) = false := by simpa using h2
     have HE := qh (show (Gm.qdn x m && Gm.qdn y m) = false by rw [hx.out, hy.out]; simp [h1, h2])
     clear h1 h2
     go_enter Tryz.func182, Tryz.ntmps182
     go_wp2_with (go_at_call 185; first | ((with_reducible refine ((c1 _).out).mono ?_); rintro e w1 ⟨rfl, hb1⟩; clear c1) | ((with_reducible refine ((c2 _).out).mono ?_); rintro e w2 ⟨rfl, hb2⟩))
     go_ret
     exact ⟨qal HE.out.symm, hb1.trans (hb2.mono hb1.size)⟩
 · have b1 : (X == x) = false := by simpa using h1
   have HE := qh (show (Gm.qdn x m && Gm.qdn y m) = false by rw [hx.out]; simp [h1])
   clear h1
   go_enter Tryz.func182, Tryz.ntmps182
   go_wp2_with (go_at_call 185; first | ((with_reducible refine ((c1 _).out).mono ?_); rintro e w1 ⟨rfl, hb1⟩; clear c1) | ((with_reducible refine ((c2 _).out).mono ?_); rintro e w2 ⟨rfl, hb2⟩))
   go_ret
   exact ⟨qal HE.out.symm, hb1⟩
theorem qk3 (x y vx vy cool score : Int) (h : ¬ Gm.qaX ⟨true, x, y, vx, vy, cool, score⟩) (ty : Gm.qdK ⟨true, x, y, vx, vy, cool, score⟩) (w : World) :
 Calls Tryz.prog 154 #[.agg #[.bool true, .int .i32 x, .int .i32 y, .int .i32 vx, .int .i32 vy, .int .i64 cool, .int .i64 score]] w fun e w' => e = .returned (.bool false) /\ Below w.heap.size w w' := by
 obtain ⟨wx, wy, wvx, wvy, wc, ws⟩ := ty
 dsimp only at wx wy wvx wvy wc ws
 have c1 := fun X => qh (qi6 x y wx wy X)
 have c2 := fun X => qh (qhF vx vy 524288 (by omega) wvx wvy X)
 have hno : Hid (¬ ((Gm.inB x && Gm.inB y) = true /\ (Gm.qdn vx 524288 && Gm.qdn vy 524288) = true /\ 0 <= cool /\ cool <= 10 /\ 0 <= score /\ score <= 1073741824)) := qh fun hh => h (by
  obtain ⟨h1, h2, h3, h4, h5, h6⟩ := hh
  rw [Bool.and_eq_true, Gm.qiI, Gm.qiI] at h1
  rw [Bool.and_eq_true, Gm.qeC (by decide), Gm.qeC (by decide)] at h2
  exact ⟨.inl rfl, h1.1, h1.2, h2.1, h2.2, h3, h4, h5, h6⟩)
 clear h
 generalize (Gm.inB x && Gm.inB y) = T at *
 generalize (Gm.qdn vx 524288 && Gm.qdn vy 524288) = V at *
 cases T
 · clear hno
   go_enter Tryz.func154, Tryz.ntmps154
   go_wp2_with (first | (go_at_call 181; ((with_reducible refine ((c1 _).out).mono ?_); rintro e w1 ⟨rfl, hb⟩; have B1 := (Box.made w 27 #[.bool true, .int .i32 x, .int .i32 y, .int .i32 vx, .int .i32 vy, .int .i64 cool, .int .i64 score]).below hb (by simp); have K1 := B1.cell; have Y1 := qh ((qac w (.cells #[.bool true, .int .i32 x, .int .i32 y, .int .i32 vx, .int .i32 vy, .int .i64 cool, .int .i64 score] 27)).trans (hb.mono (by simp))); clear hb)) | (go_at_call 182; ((with_reducible refine ((c2 _).out).mono ?_); rintro e w2 ⟨rfl, hb⟩; have B2 := B1.below hb B1.lt; have K2 := B2.cell; have Y2 := qh (Y1.out.trans (hb.mono Y1.out.size)); clear K1 hb)))
   go_ret
   exact ⟨rfl, Y1.out⟩
 cases V
 · clear hno
   go_enter Tryz.func154, Tryz.ntmps154
   go_wp2_with (first | (go_at_call 181; ((with_reducible refine ((c1 _).out).mono ?_); rintro e w1 ⟨rfl, hb⟩; have B1 := (Box.made w 27 #[.bool true, .int .i32 x, .int .i32 y, .int .i32 vx, .int .i32 vy, .int .i64 cool, .int .i64 score]).below hb (by simp); have K1 := B1.cell; have Y1 := qh ((qac w (.cells #[.bool true, .int .i32 x, .int .i32 y, .int .i32 vx, .int .i32 vy, .int .i64 cool, .int .i64 score] 27)).trans (hb.mono (by simp))); clear hb)) | (go_at_call 182; ((with_reducible refine ((c2 _).out).mono ?_); rintro e w2 ⟨rfl, hb⟩; have B2 := B1.below hb B1.lt; have K2 := B2.cell; have Y2 := qh (Y1.out.trans (hb.mono Y1.out.size)); clear K1 hb)))
   go_ret
   exact ⟨rfl, Y2.out⟩
 by_cases d0 : 0 <= cool
 rotate_left
 · have e0 : decide (0 <= cool) = false := decide_eq_false d0
   clear hno
   go_enter Tryz.func154, Tryz.ntmps154
   go_wp2_with (first | (go_at_call 181; ((with_reducible refine ((c1 _).out).mono ?_); rintro e w1 ⟨rfl, hb⟩; have B1 := (Box.made w 27 #[.bool true, .int .i32 x, .int .i32 y, .int .i32 vx, .int .i32 vy, .int .i64 cool, .int .i64 score]).below hb (by simp); have K1 := B1.cell; have Y1 := qh ((qac w (.cells #[.bool true, .int .i32 x, .int .i32 y, .int .i32 vx, .int .i32 vy, .int .i64 cool, .int .i64 score] 27)).trans (hb.mono (by simp))); clear hb)) | (go_at_call 182; ((with_reducible refine ((c2 _).out).mono ?_); rintro e w2 ⟨rfl, hb⟩; have B2 := B1.below hb B1.lt; have K2 := B2.cell; have Y2 := qh (Y1.out.trans (hb.mono Y1.out.size)); clear K1 hb)))
   go_ret
   exact ⟨rfl, Y2.out⟩
 have e0 : decide (0 <= cool) = true := decide_eq_true d0
 by_cases d1 : cool <= 10
 rotate_left
 · have e1 : decide (cool <= 10) = false := decide_eq_false d1
   clear hno
   go_enter Tryz.func154, Tryz.ntmps154
   go_wp2_with (first | (go_at_call 181; ((with_reducible refine ((c1 _).out).mono ?_); rintro e w1 ⟨rfl, hb⟩; have B1 := (Box.made w 27 #[.bool true, .int .i32 x, .int .i32 y, .int .i32 vx, .int .i32 vy, .int .i64 cool, .int .i64 score]).below hb (by simp); have K1 := B1.cell; have Y1 := qh ((qac w (.cells #[.bool true, .int .i32 x, .int .i32 y, .int .i32 vx, .int .i32 vy, .int .i64 cool, .int .i64 score] 27)).trans (hb.mono (by simp))); clear hb)) | (go_at_call 182; ((with_reducible refine ((c2 _).out).mono ?_); rintro e w2 ⟨rfl, hb⟩; have B2 := B1.below hb B1.lt; have K2 := B2.cell; have Y2 := qh (Y1.out.trans (hb.mono Y1.out.size)); clear K1 hb)))
   go_ret
   exact ⟨rfl, Y2.out⟩
 have e1 : decide (cool <= 10) = true := decide_eq_true d1
 by_cases d2 : 0 <= score
 rotate_left
 · have e2 : decide (0 <= score) = false := decide_eq_false d2
   clear hno
   go_enter Tryz.func154, Tryz.ntmps154
   go_wp2_with (first | (go_at_call 181; ((with_reducible refine ((c1 _).out).mono ?_); rintro e w1 ⟨rfl, hb⟩; have B1 := (Box.made w 27 #[.bool true, .int .i32 x, .int .i32 y, .int .i32 vx, .int .i32 vy, .int .i64 cool, .int .i64 score]).below hb (by simp); have K1 := B1.cell; have Y1 := qh ((qac w (.cells #[.bool true, .int .i32 x, .int .i32 y, .int .i32 vx, .int .i32 vy, .int .i64 cool, .int .i64 score] 27)).trans (hb.mono (by simp))); clear hb)) | (go_at_call 182; ((with_reducible refine ((c2 _).out).mono ?_); rintro e w2 ⟨rfl, hb⟩; have B2 := B1.below hb B1.lt; have K2 := B2.cell; have Y2 := qh (Y1.out.trans (hb.mono Y1.out.size)); clear K1 hb)))
   go_ret
   exact ⟨rfl, Y2.out⟩
 have e2 : decide (0 <= score) = true := decide_eq_true d2
 have e3 : decide (score <= 1073741824) = false := decide_eq_false fun h => hno.out ⟨rfl, rfl, d0, d1, d2, h⟩
 clear hno d0 d1 d2
 go_enter Tryz.func154, Tryz.ntmps154
 go_wp2_with (first | (go_at_call 181; ((with_reducible refine ((c1 _).out).mono ?_); rintro e w1 ⟨rfl, hb⟩; have B1 := (Box.made w 27 #[.bool true, .int .i32 x, .int .i32 y, .int .i32 vx, .int .i32 vy, .int .i64 cool, .int .i64 score]).below hb (by simp); have K1 := B1.cell; have Y1 := qh ((qac w (.cells #[.bool true, .int .i32 x, .int .i32 y, .int .i32 vx, .int .i32 vy, .int .i64 cool, .int .i64 score] 27)).trans (hb.mono (by simp))); clear hb)) | (go_at_call 182; ((with_reducible refine ((c2 _).out).mono ?_); rintro e w2 ⟨rfl, hb⟩; have B2 := B1.below hb B1.lt; have K2 := B2.cell; have Y2 := qh (Y1.out.trans (hb.mono Y1.out.size)); clear K1 hb)))
 go_ret
 exact ⟨rfl, Y2.out⟩
theorem qlK (s t : Gm.Ship) (w : World) : (Op.equalIn 10000 27 (.agg s.cells.toArray) (.agg t.cells.toArray)).run Tryz.prog w = .ok (s.eqB t) w := by
 obtain ⟨a1, a2, a3, a4, a5, a6, a7⟩ := s
 obtain ⟨b1, b2, b3, b4, b5, b6, b7⟩ := t
 have h := ifs7 w (a1 == b1) (a2 == b2) (a3 == b3) (a4 == b4) (a5 == b5) (a6 == b6) (a7 == b7)
 simp only [beq_iff_eq] at h
 simp only [Gm.Ship.cells]
 go_simp
 rfl
theorem qpa (s t : Gm.Ship) (w : World) : (binOp .eql 27 (.agg s.cells.toArray) (.agg t.cells.toArray)).run Tryz.prog w = .ok (.bool (s.eqB t)) w := by
 simp only [binOp]
 simp [Op.equal, Op.maxDepth, qlK]
theorem qk2 (x y vx vy cool score : Int) (h : ¬ Gm.qaX ⟨false, x, y, vx, vy, cool, score⟩) (w : World) :
 Calls Tryz.prog 154 #[.agg #[.bool false, .int .i32 x, .int .i32 y, .int .i32 vx, .int .i32 vy, .int .i64 cool, .int .i64 score]] w fun e w' => e = .returned (.bool false) /\ Below w.heap.size w w' := by
 have hne : (⟨false, x, y, vx, vy, cool, score⟩ : Gm.Ship) ≠ Gm.Ship.none := fun e => h (by
  rw [e]
  refine ⟨.inr rfl, ?_, ?_, ?_, ?_, ?_, ?_, ?_, ?_⟩ <;> simp [Gm.Ship.none, Gm.inF, Gm.slow])
 have he := fun W => qpa ⟨false, x, y, vx, vy, cool, score⟩ Gm.Ship.none W
 rw [show (⟨false, x, y, vx, vy, cool, score⟩ : Gm.Ship).eqB Gm.Ship.none = false by
  cases hq : (⟨false, x, y, vx, vy, cool, score⟩ : Gm.Ship).eqB Gm.Ship.none
  · rfl
  · exact absurd (Gm.Ship.qoD.1 hq) hne] at he
 simp only [Gm.Ship.cells, Gm.Ship.none] at he
 clear h hne
 go_enter Tryz.func154, Tryz.ntmps154
 go_wp2
 go_ret
 exact ⟨rfl, qac _ _⟩
theorem qk4 (s : Gm.Ship) (h : ¬ Gm.qaX s) (ty : Gm.qdK s) (w : World) :
 Calls Tryz.prog 154 #[.agg s.cells.toArray] w fun e w' => e = .returned (.bool false) /\ Below w.heap.size w w' := by
 obtain ⟨on, x, y, vx, vy, cool, score⟩ := s
 cases on
 · exact qk2 x y vx vy cool score h w
 · exact qk3 x y vx vy cool score h ty w
theorem qk0 (owner x y vx vy left : Int) (h : ¬ Gm.qa7 ⟨owner, x, y, vx, vy, left⟩) (ty : Gm.qdN ⟨owner, x, y, vx, vy, left⟩) (w : World) :
 Calls Tryz.prog 156 #[.agg #[.int .i64 owner, .int .i32 x, .int .i32 y, .int .i32 vx, .int .i32 vy, .int .i64 left]] w fun e w' => e = .returned (.bool false) /\ Below w.heap.size w w' := by
 obtain ⟨wo, wx, wy, wvx, wvy, wl⟩ := ty
 dsimp only at wo wx wy wvx wvy wl
 have c0 := fun X => qh (qdr owner wo X)
 have c1 := fun X => qh (qi6 x y wx wy X)
 have c2 := fun X => qh (qhF vx vy 393216 (by omega) wvx wvy X)
 have hno : Hid (¬ ((decide (0 <= owner) && decide (owner < 8)) = true /\ (Gm.inB x && Gm.inB y) = true /\ (Gm.qdn vx 393216 && Gm.qdn vy 393216) = true /\ 1 <= left /\ left <= 24)) := qh fun hh => h (by
  obtain ⟨h0, h1, h2, h3, h4⟩ := hh
  rw [Bool.and_eq_true, Gm.qiI, Gm.qiI] at h1
  rw [Bool.and_eq_true, Gm.qeC (by decide), Gm.qeC (by decide)] at h2
  simp only [Bool.and_eq_true, decide_eq_true_eq] at h0
  exact ⟨h0.1, h0.2, h1.1, h1.2, h2.1, h2.2, h3, h4⟩)
 clear h
 generalize (decide (0 <= owner) && decide (owner < 8)) = O at *
 generalize (Gm.inB x && Gm.inB y) = T at *
 generalize (Gm.qdn vx 393216 && Gm.qdn vy 393216) = V at *
 cases O
 · clear hno
   go_enter Tryz.func156, Tryz.ntmps156
   go_wp2_with (first | (go_at_call 150; ((with_reducible refine ((c0 _).out).mono ?_); rintro e w0 ⟨rfl, rfl⟩)) | (go_at_call 181; ((with_reducible refine ((c1 _).out).mono ?_); rintro e w1 ⟨rfl, hb⟩; have B1 := (Box.made w 80 #[.int .i64 owner, .int .i32 x, .int .i32 y, .int .i32 vx, .int .i32 vy, .int .i64 left]).below hb (by simp); have K1 := B1.cell; have Y1 := qh ((qac w (.cells #[.int .i64 owner, .int .i32 x, .int .i32 y, .int .i32 vx, .int .i32 vy, .int .i64 left] 80)).trans (hb.mono (by simp))); clear hb)) | (go_at_call 182; ((with_reducible refine ((c2 _).out).mono ?_); rintro e w2 ⟨rfl, hb⟩; have B2 := B1.below hb B1.lt; have K2 := B2.cell; have Y2 := qh (Y1.out.trans (hb.mono Y1.out.size)); clear K1 hb)))
   go_ret
   exact ⟨rfl, qac _ _⟩
 cases T
 · clear hno
   go_enter Tryz.func156, Tryz.ntmps156
   go_wp2_with (first | (go_at_call 150; ((with_reducible refine ((c0 _).out).mono ?_); rintro e w0 ⟨rfl, rfl⟩)) | (go_at_call 181; ((with_reducible refine ((c1 _).out).mono ?_); rintro e w1 ⟨rfl, hb⟩; have B1 := (Box.made w 80 #[.int .i64 owner, .int .i32 x, .int .i32 y, .int .i32 vx, .int .i32 vy, .int .i64 left]).below hb (by simp); have K1 := B1.cell; have Y1 := qh ((qac w (.cells #[.int .i64 owner, .int .i32 x, .int .i32 y, .int .i32 vx, .int .i32 vy, .int .i64 left] 80)).trans (hb.mono (by simp))); clear hb)) | (go_at_call 182; ((with_reducible refine ((c2 _).out).mono ?_); rintro e w2 ⟨rfl, hb⟩; have B2 := B1.below hb B1.lt; have K2 := B2.cell; have Y2 := qh (Y1.out.trans (hb.mono Y1.out.size)); clear K1 hb)))
   go_ret
   exact ⟨rfl, Y1.out⟩
 cases V
 · clear hno
   go_enter Tryz.func156, Tryz.ntmps156
   go_wp2_with (first | (go_at_call 150; ((with_reducible refine ((c0 _).out).mono ?_); rintro e w0 ⟨rfl, rfl⟩)) | (go_at_call 181; ((with_reducible refine ((c1 _).out).mono ?_); rintro e w1 ⟨rfl, hb⟩; have B1 := (Box.made w 80 #[.int .i64 owner, .int .i32 x, .int .i32 y, .int .i32 vx, .int .i32 vy, .int .i64 left]).below hb (by simp); have K1 := B1.cell; have Y1 := qh ((qac w (.cells #[.int .i64 owner, .int .i32 x, .int .i32 y, .int .i32 vx, .int .i32 vy, .int .i64 left] 80)).trans (hb.mono (by simp))); clear hb)) | (go_at_call 182; ((with_reducible refine ((c2 _).out).mono ?_); rintro e w2 ⟨rfl, hb⟩; have B2 := B1.below hb B1.lt; have K2 := B2.cell; have Y2 := qh (Y1.out.trans (hb.mono Y1.out.size)); clear K1 hb)))
   go_ret
   exact ⟨rfl, Y2.out⟩
 by_cases d0 : 1 <= left
 rotate_left
 · have e0 : decide (1 <= left) = false := decide_eq_false d0
   clear hno
   go_enter Tryz.func156, Tryz.ntmps156
   go_wp2_with (first | (go_at_call 150; ((with_reducible refine ((c0 _).out).mono ?_); rintro e w0 ⟨rfl, rfl⟩)) | (go_at_call 181; ((with_reducible refine ((c1 _).out).mono ?_); rintro e w1 ⟨rfl, hb⟩; have B1 := (Box.made w 80 #[.int .i64 owner, .int .i32 x, .int .i32 y, .int .i32 vx, .int .i32 vy, .int .i64 left]).below hb (by simp); have K1 := B1.cell; have Y1 := qh ((qac w (.cells #[.int .i64 owner, .int .i32 x, .int .i32 y, .int .i32 vx, .int .i32 vy, .int .i64 left] 80)).trans (hb.mono (by simp))); clear hb)) | (go_at_call 182; ((with_reducible refine ((c2 _).out).mono ?_); rintro e w2 ⟨rfl, hb⟩; have B2 := B1.below hb B1.lt; have K2 := B2.cell; have Y2 := qh (Y1.out.trans (hb.mono Y1.out.size)); clear K1 hb)))
   go_ret
   exact ⟨rfl, Y2.out⟩
 have e0 : decide (1 <= left) = true := decide_eq_true d0
 have e3 : decide (left <= 24) = false := decide_eq_false fun h => hno.out ⟨rfl, rfl, rfl, d0, h⟩
 clear hno d0
 go_enter Tryz.func156, Tryz.ntmps156
 go_wp2_with (first | (go_at_call 150; ((with_reducible refine ((c0 _).out).mono ?_); rintro e w0 ⟨rfl, rfl⟩)) | (go_at_call 181; ((with_reducible refine ((c1 _).out).mono ?_); rintro e w1 ⟨rfl, hb⟩; have B1 := (Box.made w 80 #[.int .i64 owner, .int .i32 x, .int .i32 y, .int .i32 vx, .int .i32 vy, .int .i64 left]).below hb (by simp); have K1 := B1.cell; have Y1 := qh ((qac w (.cells #[.int .i64 owner, .int .i32 x, .int .i32 y, .int .i32 vx, .int .i32 vy, .int .i64 left] 80)).trans (hb.mono (by simp))); clear hb)) | (go_at_call 182; ((with_reducible refine ((c2 _).out).mono ?_); rintro e w2 ⟨rfl, hb⟩; have B2 := B1.below hb B1.lt; have K2 := B2.cell; have Y2 := qh (Y1.out.trans (hb.mono Y1.out.size)); clear K1 hb)))
 go_ret
 exact ⟨rfl, Y2.out⟩
end Go.Proofs.YtmiopphcfdlneaaGreat