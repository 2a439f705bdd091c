/-
The program's game: the shots that stay.
-/
import Derived.Test.YtbihnmingedgfaaHs
import Derived.Deep.LoopGhost
namespace Go.Proofs.Ytbihnmingedgfaa
open Go.RowKit Go.Shelf
set_option linter.unusedVariables false

theorem place_is (d : Int) : Gm.placeX d = Dn.share (Dn.next d) 16777216 ∧ Gm.placeY d = Dn.share (Dn.next (Dn.next d)) 16777216 ∧ Gm.placeD d = Dn.next (Dn.next d) := ⟨rfl, rfl, rfl⟩
theorem goon_at (G : Gm.G) (b B c gs i : Nat) (w : World) (hbB : b ≤ B) (hi : i < G.shots.length) (h : HasAt b B (some ⟨gs, 0, none⟩) c G w) (ok : Gm.okShot G.shots[i]) (hsh : ∀ j, j < 8 → Gm.okShip (G.ship j)) (hd : 0 ≤ G.dice ∧ G.dice ≤ 18446744073709551615) :
    Calls Try.prog 64 #[.pointer (some ⟨B, 0, none⟩), .pointer (some ⟨gs, i * 6, none⟩)] w fun e w' => e = .returned (.bool (gone G i G.shots[i]).1) ∧ HasAt b B (some ⟨gs, 0, none⟩) c (gone G i G.shots[i]).2 w' ∧ Keep b B w w' := by
  generalize hs : G.shots[i] = s at ok
  obtain ⟨owner, x, y, vx, vy, left⟩ := s
  obtain ⟨o, rfl⟩ : ∃ o : Nat, owner = o := ⟨owner.toNat, by have := ok.1; dsimp only at this; omega⟩
  have ho : o < 8 := by have := ok.2.1; dsimp only at this; omega
  have hf : Gm.fly ⟨o, x, y, vx, vy, left⟩ = ⟨o, Gf.move x vx, Gf.move y vy, vx, vy, left - 1⟩ := rfl
  refine (goon_walk G b B c gs i o x y vx vy left _ _ w hbB hi h hs ho ok hsh hd rfl rfl _ _ _ rfl rfl rfl).mono ?_
  rintro e w' (⟨h1, rfl, h2, h3⟩ | ⟨h0, h1, rfl, h2, h3⟩ | ⟨kh, h0, h1, rfl, h2, h3⟩)
  · unfold gone
    rw [hf, if_pos h1]
    exact ⟨rfl, h2, h3⟩
  · unfold gone
    rw [hf, if_neg h0, if_pos (by rw [h1]; decide)]
    exact ⟨rfl, h2, h3⟩
  · unfold gone
    rw [hf, if_neg h0, if_neg (by rw [h1]; omega), h1]
    exact ⟨rfl, h2, h3⟩

theorem stays_at (G : Gm.G) (b B c gs i : Nat) (w : World) (hbB : b ≤ B) (hi : i < G.shots.length) (h : HasAt b B (some ⟨gs, 0, none⟩) c G w) (ok : Gm.okShot G.shots[i]) (hsh : ∀ j, j < 8 → Gm.okShip (G.ship j)) (hd : 0 ≤ G.dice ∧ G.dice ≤ 18446744073709551615) :
    Calls Try.prog 63 #[.pointer (some ⟨gs, i * 6, none⟩), .pointer (some ⟨B, 0, none⟩)] w fun e w' => e = .returned (.bool (gone G i G.shots[i]).1) ∧ HasAt b B (some ⟨gs, 0, none⟩) c (gone G i G.shots[i]).2 w' ∧ Keep b B w w' := by
  have c1 := Lib.hid (goon_at G b B c gs i w hbB hi h ok hsh hd)
  generalize gone G i G.shots[i] = r at c1 ⊢
  clear h ok
  go_enter Try.func63, Try.ntmps63
  go_wp2_with (go_at_call 64; ((with_reducible refine (c1.out).mono ?_); rintro e w1 ⟨rfl, h1, h2⟩; have H1 := Lib.hid h1; have H2 := Lib.hid h2; clear h1 h2))
  go_ret
  exact ⟨rfl, H1.out, H2.out⟩

/-! One more is put at the end of those that stay, in the same list. -/
def AppendsIn (P : Program) (e : TypeId) (size : Nat) (ops : Array Oper) (Q : Exit → Act → World → Prop) (rest : List Oper) (dst : Option Tmp) (v q : Value) (a : Act) (w : World) : Prop :=
  ∃ (g n c : Nat) (cur : Array Value) (ad : Addr) (k : Nat) (news : List Value), v = .slice (some ⟨g, 0, none⟩) n c ∧ q = .slice (some ad) 1 k ∧ Box w g e cur ∧ Lies w w.heap.size size (some ad) 1 news ∧ (∀ u ∈ news, u.oneCell' = true) ∧ n + 1 ≤ c ∧ n * size + news.length ≤ cur.size ∧
    wpList P ops Q rest (a.put dst (.slice (some ⟨g, 0, none⟩) (n + 1) c)) (w.setRow g (cur.toList.take (n * size) ++ news ++ cur.toList.drop (n * size + news.length)).toArray)
theorem AppendsIn.mk {P : Program} {e : TypeId} {size : Nat} {ops : Array Oper} {Q : Exit → Act → World → Prop} {rest : List Oper} {dst : Option Tmp} {v q : Value} {a : Act} {w : World} {g n c : Nat} {cur : Array Value} {ad : Addr} {k : Nat} {news : List Value}
    (hv : v = .slice (some ⟨g, 0, none⟩) n c) (hq : q = .slice (some ad) 1 k) (hB : Box w g e cur) (hl : Lies w w.heap.size size (some ad) 1 news) (h1 : ∀ u ∈ news, u.oneCell' = true) (hr : n + 1 ≤ c) (hf : n * size + news.length ≤ cur.size)
    (h : wpList P ops Q rest (a.put dst (.slice (some ⟨g, 0, none⟩) (n + 1) c)) (w.setRow g (cur.toList.take (n * size) ++ news ++ cur.toList.drop (n * size + news.length)).toArray)) : AppendsIn P e size ops Q rest dst v q a w :=
  ⟨g, n, c, cur, ad, k, news, hv, hq, hB, hl, h1, hr, hf, h⟩
theorem room_gate {P : Program} {ops : Array Oper} {rest : List Oper} {o : Oper} {a : Act} {w : World} {Q : Exit → Act → World → Prop} {t e : TypeId} {i : TypeInfo} {size : Nat} {x y : Operand}
    (hgd : o.guard = none) (ho : o.op = .call { callee := .builtin .append, args := #[x, y], argTypes := #[t, t] }) (ht : P.underlying t = some (.slice e)) (hi : P.info? e = some i) (hs : i.size = size)
    (h : AppendsIn P e size ops Q rest o.dst (a.eval x) (a.eval y) a w) : wpList P ops Q (o :: rest) a w := by
  obtain ⟨g, n, c, cur, ad, k, news, hv, hq, hB, hl, h1, hr, hf, h⟩ := h
  subst hs
  have hrun := run_append_room (P := P) (w := w) t o.type e i ht hi g n c cur hB.is ad 1 k news hl.len (fun j u hu => hl.cell ad rfl (by decide) j u hu) h1 hr hf
  refine wpList_plain hgd fun _ hK => ?_
  unfold Oper.wp
  rw [exec_append ho hv hq hrun]
  exact hK _ _ h
theorem shotCells_over (L : List Gm.Shot) (n : Nat) (hn : n < L.length) (s : Gm.Shot) : Gm.shotCells (L.set n s) = (Gm.shotCells L).take (n * 6) ++ s.cells ++ (Gm.shotCells L).drop (n * 6 + 6) := by
  induction L generalizing n with
  | nil => simp at hn
  | cons a L ih =>
    have hlen : a.cells.length = 6 := rfl
    unfold Gm.shotCells at *
    match n with
    | 0 => rw [List.set_cons_zero, List.flatMap_cons, List.flatMap_cons]; simp [hlen]
    | n + 1 =>
      rw [List.set_cons_succ, List.flatMap_cons, List.flatMap_cons, ih n (by simpa using hn), show (n + 1) * 6 = a.cells.length + n * 6 by rw [hlen]; omega, List.take_length_add_append, show a.cells.length + n * 6 + 6 = a.cells.length + (n * 6 + 6) by omega, List.drop_length_add_append]
      simp
theorem HasAt.room {b B c gs n : Nat} {G : Gm.G} {W : World} (h : HasAt b B (some ⟨gs, 0, none⟩) c G W) (hn : n < G.shots.length) (s : Gm.Shot) :
    ∃ cur, Box W gs 108 cur ∧ n + 1 ≤ c ∧ n * 6 + 6 ≤ cur.size ∧ HasAt b B (some ⟨gs, 0, none⟩) c { G with shots := G.shots.set n s } (W.setRow gs (cur.toList.take (n * 6) ++ s.cells ++ cur.toList.drop (n * 6 + 6)).toArray) := by
  have hap := h.apart
  obtain ⟨hg, hl, ⟨h0, _⟩ | ⟨g', cap, cur, hv, hb, hgg, hnc, hcm, hcs, htake⟩⟩ := h
  · cases h0
  · injection hv with e1 e2 e3
    injection e1 with e1
    injection e1 with e1
    subst e1 e3
    have hfit : n * 6 + 6 ≤ cur.size := by omega
    refine ⟨cur, ⟨hgg⟩, by omega, hfit, ?_, ?_, ?_⟩
    · dsimp only
      rw [show (G.shots.set n s).length = G.shots.length by simp]
      exact hg.row_far (fun e => hap e.symm) _
    · dsimp only
      rw [Gm.shotCells_len]
    · dsimp only
      rw [show (G.shots.set n s).length = G.shots.length by simp]
      refine .inr ⟨gs, c, _, rfl, hb, (Box.row ⟨hgg⟩ _).is, hnc, hcm, ?_, ?_⟩
      · have : s.cells.length = 6 := rfl
        simp [this]; omega
      · rw [shotCells_over _ _ hn, ← htake]
        have hc6 : s.cells.length = 6 := rfl
        have hcl : cur.toList.length = c * 6 := by simpa using hcs
        have hm : n * 6 + 6 ≤ G.shots.length * 6 := by omega
        have hm2 : G.shots.length * 6 ≤ c * 6 := by omega
        generalize G.shots.length * 6 = M at *
        generalize n * 6 = K at *
        generalize cur.toList = Z at *
        rw [List.take_append, List.take_append]
        simp only [List.length_append, List.length_take, hc6, hcl]
        rw [List.take_take, List.take_take]
        rw [show min M K = K by omega, show min K (c * 6) = K by omega, show min K M = K by omega, List.take_of_length_le (l := s.cells) (by omega), List.drop_take]

/-- A list that stays as it is but for one. -/
theorem HasAt.self {b B c : Nat} {A : Option Addr} {G : Gm.G} {W : World} (h : HasAt b B A c G W) : HasAt b B A c { G with shots := G.shots } W := h

/-- No shots: nobody is asked. -/
theorem keep_none (g : Gm.G) (b B : Nat) (f : Value) (w : World) (hbB : b ≤ B) (h : Has b B g w) (h0 : g.shots = []) :
    Calls Try.prog 62 #[.pointer (some ⟨B, 0, none⟩), f] w fun e w' => e = .returned (.tuple #[]) ∧ Has b B g w' ∧ Keep b B w w' := by
  obtain ⟨A, c, hB, hO⟩ := h
  rw [h0] at hB hO
  have hn : ([] : List Gm.Shot).length = 0 := rfl
  rw [hn] at hB hO
  have hc := hB.cell
  have hf := hB.free
  have e58 := Gm.cells_58 g (.slice A 0 c)
  have fin : Has b B g (w.setCell ⟨B, 58, none⟩ (.slice A 0 c)) := ⟨A, c, by rw [h0]; exact blk_shots hB _, by rw [h0]; exact ownsRow_setCell_other (a := ⟨B, 58, none⟩) hO (hB.unowned hO (by decide)) _⟩
  have FIN := Lib.hid fin
  have HK := Lib.hid ((Keep.refl hbB w).put 58 (.slice A 0 c))
  have hA : A = none → c = 0 := fun e => by
    subst e
    obtain ⟨_, ⟨h, _⟩ | ⟨_, _, _, h, _⟩⟩ := hO
    · injection h
    · cases h
  clear hB hO fin
  cases A with
  | none =>
    obtain rfl := hA rfl
    clear hA
    go_enter Try.func62, Try.ntmps62
    go_wp2
    go_loopg [4, 16] 0 (fun gg s4 i wr => gg = 0 ∧ s4 = .slice none 0 0 ∧ i = .int .i64 0 ∧ wr = w)
    case atStart => exact ⟨rfl, rfl, rfl, rfl⟩
    case round =>
      obtain ⟨rfl, rfl, rfl, rfl⟩ := hrel
      go_wp2
      go_end0
      exact ⟨rfl, FIN.out, HK.out⟩
  | some ad =>
    clear hA
    go_enter Try.func62, Try.ntmps62
    go_wp2
    go_loopg [4, 16] 0 (fun gg s4 i wr => gg = 0 ∧ s4 = .slice (some ad) 0 c ∧ i = .int .i64 0 ∧ wr = w)
    case atStart => exact ⟨rfl, rfl, rfl, rfl⟩
    case round =>
      obtain ⟨rfl, rfl, rfl, rfl⟩ := hrel
      go_wp2
      go_end0
      exact ⟨rfl, FIN.out, HK.out⟩
end Go.Proofs.Ytbihnmingedgfaa
