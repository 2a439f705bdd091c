/-
Several texts in one: Zi Zp Yn Yo Zj.
-/
import Derived.Test.YtgmlbimgcifenaaVp7
namespace Go.Proofs.Ytgmlbimgcifenaa
open Go.RowKit Go.Shelf
set_option linter.unusedVariables false
set_option linter.unusedSimpArgs false

set_option maxRecDepth 100000 in
set_option maxHeartbeats 1000000 in
theorem pt2 (v : Value) (own zc : Int) (P tb tm tq : Nat) (w : World) (Φ : Ending → World → Prop) (hb : Box w tb 66 #[v]) (hm : Box w tm 69 #[.pointer (some ⟨P, 0, none⟩)]) (ho : Box w tq 72 #[.int .i64 own])
    (hz : bits .and .i64 own 1 = zc) (h0 : zc = 0 → Φ (.returned (.tuple #[])) w) (h1 : zc ≠ 0 → Calls Try.prog 51 #[v, .int .i64 1, .pointer (some ⟨P, 5, none⟩)] w.drew Φ) (hΦ : ∀ e w', Φ e w' → (e = .returned (.tuple #[]) ∧ Box w' tb 66 #[v] ∧ Box w' tm 69 #[.pointer (some ⟨P, 0, none⟩)]) ∨ ∃ ch, e = .panicked ch) :
    Calls Try.prog 66 #[.int .i64 1, .func (.func 67) #[] #[.pointer (some ⟨tb, 0, none⟩), .pointer (some ⟨tm, 0, none⟩)], .pointer (some ⟨tq, 0, none⟩)] w Φ := by
  have o0 := ho.cell 0
  have hin : zc ≠ 0 → Calls Try.prog 67 #[.pointer (some ⟨tb, 0, none⟩), .pointer (some ⟨tm, 0, none⟩)] w Φ := fun hne => by
    have c1 := Lib.hid (h1 hne)
    have HΦ := Lib.hid hΦ
    have HB := Lib.hid hb
    have HM := Lib.hid hm
    clear h0 h1 hΦ hz hb hm ho o0
    go_enter Try.func67, Try.ntmps67
    refine Rx.wp_region_lex (X := fun ch Z => Φ (.panicked ch) Z) (by kernel_rfl) [] (by kernel_rfl) (· = w.drew) (fun W => Box W tb 66 #[v] ∧ Box W tm 69 #[.pointer (some ⟨P, 0, none⟩)]) (fun _ => True) rfl (fun W hW => ⟨hW ▸ ⟨HB.out.drew, HM.out.drew⟩, trivial⟩) ?_ ?_
    · rintro a' ha' _ ch Z hZ
      exact ⟨ha', hZ⟩
    repeat (first
      | (apply Rx.lex_free rfl rfl; focus (intro _; go_simp; first | done | rfl))
      | (apply Rx.lex_look rfl rfl rfl rfl; focus (intro W hW; obtain ⟨hW1, hW2⟩ := hW; have c0 := Box.cell hW1; have c1 := Box.cell hW2; clear hW1 hW2; go_simp; first | done | rfl)))
    refine Rx.lex_call (C' := fun Z => Φ (.returned (.tuple #[])) Z ∧ Box Z tb 66 #[v] ∧ Box Z tm 69 #[.pointer (some ⟨P, 0, none⟩)]) (v := .tuple #[]) (f := 51) (args := #[v, .int .i64 1, .pointer (some ⟨P, 5, none⟩)]) rfl ?_ ?_ ?_ ?_
    · intro Z hZ; clear hZ; go_simp; first | done | rfl | exact ⟨rfl, rfl⟩
    · intro Z hZ
      subst hZ
      refine (c1.out).mono fun e Z2 hφ => ?_
      rcases HΦ.out e Z2 hφ with ⟨rfl, h1, h2⟩ | ⟨ch, rfl⟩
      · exact .inl ⟨rfl, hφ, h1, h2⟩
      · exact .inr ⟨ch, rfl, hφ⟩
    · exact fun Z hZ => ⟨hZ.2, trivial⟩
    refine Rx.lex_end fun W3 hW3 => ?_
    obtain ⟨hφ, _, _⟩ := hW3
    have H3 := Lib.hid hφ
    clear hφ
    go_wp2
    go_end0
    exact H3.out
  have H0 := Lib.hid h0
  have HI := Lib.hid hin
  have HΦ := Lib.hid hΦ
  clear h0 h1 hΦ hin hb hm ho
  by_cases hc : zc = 0
  · subst hc
    have HZ := Lib.hid (H0.out rfl)
    clear H0 HI HΦ
    go_enter Try.func66, Try.ntmps66
    go_wp2
    go_end0
    exact HZ.out
  · have c1 := Lib.hid (HI.out hc)
    have hcb : (zc == 0) = false := by simpa using hc
    clear H0 HI
    go_enter Try.func66, Try.ntmps66
    go_wp2_with (go_at_call 67; ((with_reducible refine (c1.out).mono ?_); rintro e w1 hφ; rcases HΦ.out e w1 hφ with ⟨rfl, h1, h2⟩ | ⟨ch, rfl⟩))
    · go_end0
      exact hφ
    · first | exact ⟨rfl, hφ⟩ | exact hφ
set_option maxRecDepth 100000 in
set_option maxHeartbeats 1000000 in
theorem pt3 (v : Value) (own zc : Int) (P tb tm tq : Nat) (w : World) (Φ : Ending → World → Prop) (hb : Box w tb 66 #[v]) (hm : Box w tm 69 #[.pointer (some ⟨P, 0, none⟩)]) (ho : Box w tq 72 #[.int .i64 own])
    (hz : bits .and .i64 own 2 = zc) (h0 : zc = 0 → Φ (.returned (.tuple #[])) w) (h1 : zc ≠ 0 → Calls Try.prog 51 #[v, .int .i64 2, .pointer (some ⟨P, 6, none⟩)] w.drew Φ) (hΦ : ∀ e w', Φ e w' → (e = .returned (.tuple #[]) ∧ Box w' tb 66 #[v] ∧ Box w' tm 69 #[.pointer (some ⟨P, 0, none⟩)]) ∨ ∃ ch, e = .panicked ch) :
    Calls Try.prog 66 #[.int .i64 2, .func (.func 68) #[] #[.pointer (some ⟨tb, 0, none⟩), .pointer (some ⟨tm, 0, none⟩)], .pointer (some ⟨tq, 0, none⟩)] w Φ := by
  have o0 := ho.cell 0
  have hin : zc ≠ 0 → Calls Try.prog 68 #[.pointer (some ⟨tb, 0, none⟩), .pointer (some ⟨tm, 0, none⟩)] w Φ := fun hne => by
    have c1 := Lib.hid (h1 hne)
    have HΦ := Lib.hid hΦ
    have HB := Lib.hid hb
    have HM := Lib.hid hm
    clear h0 h1 hΦ hz hb hm ho o0
    go_enter Try.func68, Try.ntmps68
    refine Rx.wp_region_lex (X := fun ch Z => Φ (.panicked ch) Z) (by kernel_rfl) [] (by kernel_rfl) (· = w.drew) (fun W => Box W tb 66 #[v] ∧ Box W tm 69 #[.pointer (some ⟨P, 0, none⟩)]) (fun _ => True) rfl (fun W hW => ⟨hW ▸ ⟨HB.out.drew, HM.out.drew⟩, trivial⟩) ?_ ?_
    · rintro a' ha' _ ch Z hZ
      exact ⟨ha', hZ⟩
    repeat (first
      | (apply Rx.lex_free rfl rfl; focus (intro _; go_simp; first | done | rfl))
      | (apply Rx.lex_look rfl rfl rfl rfl; focus (intro W hW; obtain ⟨hW1, hW2⟩ := hW; have c0 := Box.cell hW1; have c1 := Box.cell hW2; clear hW1 hW2; go_simp; first | done | rfl)))
    refine Rx.lex_call (C' := fun Z => Φ (.returned (.tuple #[])) Z ∧ Box Z tb 66 #[v] ∧ Box Z tm 69 #[.pointer (some ⟨P, 0, none⟩)]) (v := .tuple #[]) (f := 51) (args := #[v, .int .i64 2, .pointer (some ⟨P, 6, none⟩)]) rfl ?_ ?_ ?_ ?_
    · intro Z hZ; clear hZ; go_simp; first | done | rfl | exact ⟨rfl, rfl⟩
    · intro Z hZ
      subst hZ
      refine (c1.out).mono fun e Z2 hφ => ?_
      rcases HΦ.out e Z2 hφ with ⟨rfl, h1, h2⟩ | ⟨ch, rfl⟩
      · exact .inl ⟨rfl, hφ, h1, h2⟩
      · exact .inr ⟨ch, rfl, hφ⟩
    · exact fun Z hZ => ⟨hZ.2, trivial⟩
    refine Rx.lex_end fun W3 hW3 => ?_
    obtain ⟨hφ, _, _⟩ := hW3
    have H3 := Lib.hid hφ
    clear hφ
    go_wp2
    go_end0
    exact H3.out
  have H0 := Lib.hid h0
  have HI := Lib.hid hin
  have HΦ := Lib.hid hΦ
  clear h0 h1 hΦ hin hb hm ho
  by_cases hc : zc = 0
  · subst hc
    have HZ := Lib.hid (H0.out rfl)
    clear H0 HI HΦ
    go_enter Try.func66, Try.ntmps66
    go_wp2
    go_end0
    exact HZ.out
  · have c1 := Lib.hid (HI.out hc)
    have hcb : (zc == 0) = false := by simpa using hc
    clear H0 HI
    go_enter Try.func66, Try.ntmps66
    go_wp2_with (go_at_call 68; ((with_reducible refine (c1.out).mono ?_); rintro e w1 hφ; rcases HΦ.out e w1 hφ with ⟨rfl, h1, h2⟩ | ⟨ch, rfl⟩))
    · go_end0
      exact hφ
    · first | exact ⟨rfl, hφ⟩ | exact hφ
set_option maxRecDepth 100000 in
set_option maxHeartbeats 1000000 in
theorem pt4 (v : Value) (own zc : Int) (P tb tm tq : Nat) (w : World) (Φ : Ending → World → Prop) (hb : Box w tb 66 #[v]) (hm : Box w tm 69 #[.pointer (some ⟨P, 0, none⟩)]) (ho : Box w tq 72 #[.int .i64 own])
    (hz : bits .and .i64 own 4 = zc) (h0 : zc = 0 → Φ (.returned (.tuple #[])) w) (h1 : zc ≠ 0 → Calls Try.prog 51 #[v, .int .i64 4, .pointer (some ⟨P, 7, none⟩)] w.drew Φ) (hΦ : ∀ e w', Φ e w' → (e = .returned (.tuple #[]) ∧ Box w' tb 66 #[v] ∧ Box w' tm 69 #[.pointer (some ⟨P, 0, none⟩)]) ∨ ∃ ch, e = .panicked ch) :
    Calls Try.prog 66 #[.int .i64 4, .func (.func 69) #[] #[.pointer (some ⟨tb, 0, none⟩), .pointer (some ⟨tm, 0, none⟩)], .pointer (some ⟨tq, 0, none⟩)] w Φ := by
  have o0 := ho.cell 0
  have hin : zc ≠ 0 → Calls Try.prog 69 #[.pointer (some ⟨tb, 0, none⟩), .pointer (some ⟨tm, 0, none⟩)] w Φ := fun hne => by
    have c1 := Lib.hid (h1 hne)
    have HΦ := Lib.hid hΦ
    have HB := Lib.hid hb
    have HM := Lib.hid hm
    clear h0 h1 hΦ hz hb hm ho o0
    go_enter Try.func69, Try.ntmps69
    refine Rx.wp_region_lex (X := fun ch Z => Φ (.panicked ch) Z) (by kernel_rfl) [] (by kernel_rfl) (· = w.drew) (fun W => Box W tb 66 #[v] ∧ Box W tm 69 #[.pointer (some ⟨P, 0, none⟩)]) (fun _ => True) rfl (fun W hW => ⟨hW ▸ ⟨HB.out.drew, HM.out.drew⟩, trivial⟩) ?_ ?_
    · rintro a' ha' _ ch Z hZ
      exact ⟨ha', hZ⟩
    repeat (first
      | (apply Rx.lex_free rfl rfl; focus (intro _; go_simp; first | done | rfl))
      | (apply Rx.lex_look rfl rfl rfl rfl; focus (intro W hW; obtain ⟨hW1, hW2⟩ := hW; have c0 := Box.cell hW1; have c1 := Box.cell hW2; clear hW1 hW2; go_simp; first | done | rfl)))
    refine Rx.lex_call (C' := fun Z => Φ (.returned (.tuple #[])) Z ∧ Box Z tb 66 #[v] ∧ Box Z tm 69 #[.pointer (some ⟨P, 0, none⟩)]) (v := .tuple #[]) (f := 51) (args := #[v, .int .i64 4, .pointer (some ⟨P, 7, none⟩)]) rfl ?_ ?_ ?_ ?_
    · intro Z hZ; clear hZ; go_simp; first | done | rfl | exact ⟨rfl, rfl⟩
    · intro Z hZ
      subst hZ
      refine (c1.out).mono fun e Z2 hφ => ?_
      rcases HΦ.out e Z2 hφ with ⟨rfl, h1, h2⟩ | ⟨ch, rfl⟩
      · exact .inl ⟨rfl, hφ, h1, h2⟩
      · exact .inr ⟨ch, rfl, hφ⟩
    · exact fun Z hZ => ⟨hZ.2, trivial⟩
    refine Rx.lex_end fun W3 hW3 => ?_
    obtain ⟨hφ, _, _⟩ := hW3
    have H3 := Lib.hid hφ
    clear hφ
    go_wp2
    go_end0
    exact H3.out
  have H0 := Lib.hid h0
  have HI := Lib.hid hin
  have HΦ := Lib.hid hΦ
  clear h0 h1 hΦ hin hb hm ho
  by_cases hc : zc = 0
  · subst hc
    have HZ := Lib.hid (H0.out rfl)
    clear H0 HI HΦ
    go_enter Try.func66, Try.ntmps66
    go_wp2
    go_end0
    exact HZ.out
  · have c1 := Lib.hid (HI.out hc)
    have hcb : (zc == 0) = false := by simpa using hc
    clear H0 HI
    go_enter Try.func66, Try.ntmps66
    go_wp2_with (go_at_call 69; ((with_reducible refine (c1.out).mono ?_); rintro e w1 hφ; rcases HΦ.out e w1 hφ with ⟨rfl, h1, h2⟩ | ⟨ch, rfl⟩))
    · go_end0
      exact hφ
    · first | exact ⟨rfl, hφ⟩ | exact hφ
set_option maxRecDepth 100000 in
set_option maxHeartbeats 1000000 in
theorem pt5 (v : Value) (own zc : Int) (P tb tm tq : Nat) (w : World) (Φ : Ending → World → Prop) (hb : Box w tb 66 #[v]) (hm : Box w tm 69 #[.pointer (some ⟨P, 0, none⟩)]) (ho : Box w tq 72 #[.int .i64 own])
    (hz : bits .and .i64 own 8 = zc) (h0 : zc = 0 → Φ (.returned (.tuple #[])) w) (h1 : zc ≠ 0 → Calls Try.prog 51 #[v, .int .i64 1, .pointer (some ⟨P, 8, none⟩)] w.drew Φ) (hΦ : ∀ e w', Φ e w' → (e = .returned (.tuple #[]) ∧ Box w' tb 66 #[v] ∧ Box w' tm 69 #[.pointer (some ⟨P, 0, none⟩)]) ∨ ∃ ch, e = .panicked ch) :
    Calls Try.prog 66 #[.int .i64 8, .func (.func 70) #[] #[.pointer (some ⟨tb, 0, none⟩), .pointer (some ⟨tm, 0, none⟩)], .pointer (some ⟨tq, 0, none⟩)] w Φ := by
  have o0 := ho.cell 0
  have hin : zc ≠ 0 → Calls Try.prog 70 #[.pointer (some ⟨tb, 0, none⟩), .pointer (some ⟨tm, 0, none⟩)] w Φ := fun hne => by
    have c1 := Lib.hid (h1 hne)
    have HΦ := Lib.hid hΦ
    have HB := Lib.hid hb
    have HM := Lib.hid hm
    clear h0 h1 hΦ hz hb hm ho o0
    go_enter Try.func70, Try.ntmps70
    refine Rx.wp_region_lex (X := fun ch Z => Φ (.panicked ch) Z) (by kernel_rfl) [] (by kernel_rfl) (· = w.drew) (fun W => Box W tb 66 #[v] ∧ Box W tm 69 #[.pointer (some ⟨P, 0, none⟩)]) (fun _ => True) rfl (fun W hW => ⟨hW ▸ ⟨HB.out.drew, HM.out.drew⟩, trivial⟩) ?_ ?_
    · rintro a' ha' _ ch Z hZ
      exact ⟨ha', hZ⟩
    repeat (first
      | (apply Rx.lex_free rfl rfl; focus (intro _; go_simp; first | done | rfl))
      | (apply Rx.lex_look rfl rfl rfl rfl; focus (intro W hW; obtain ⟨hW1, hW2⟩ := hW; have c0 := Box.cell hW1; have c1 := Box.cell hW2; clear hW1 hW2; go_simp; first | done | rfl)))
    refine Rx.lex_call (C' := fun Z => Φ (.returned (.tuple #[])) Z ∧ Box Z tb 66 #[v] ∧ Box Z tm 69 #[.pointer (some ⟨P, 0, none⟩)]) (v := .tuple #[]) (f := 51) (args := #[v, .int .i64 1, .pointer (some ⟨P, 8, none⟩)]) rfl ?_ ?_ ?_ ?_
    · intro Z hZ; clear hZ; go_simp; first | done | rfl | exact ⟨rfl, rfl⟩
    · intro Z hZ
      subst hZ
      refine (c1.out).mono fun e Z2 hφ => ?_
      rcases HΦ.out e Z2 hφ with ⟨rfl, h1, h2⟩ | ⟨ch, rfl⟩
      · exact .inl ⟨rfl, hφ, h1, h2⟩
      · exact .inr ⟨ch, rfl, hφ⟩
    · exact fun Z hZ => ⟨hZ.2, trivial⟩
    refine Rx.lex_end fun W3 hW3 => ?_
    obtain ⟨hφ, _, _⟩ := hW3
    have H3 := Lib.hid hφ
    clear hφ
    go_wp2
    go_end0
    exact H3.out
  have H0 := Lib.hid h0
  have HI := Lib.hid hin
  have HΦ := Lib.hid hΦ
  clear h0 h1 hΦ hin hb hm ho
  by_cases hc : zc = 0
  · subst hc
    have HZ := Lib.hid (H0.out rfl)
    clear H0 HI HΦ
    go_enter Try.func66, Try.ntmps66
    go_wp2
    go_end0
    exact HZ.out
  · have c1 := Lib.hid (HI.out hc)
    have hcb : (zc == 0) = false := by simpa using hc
    clear H0 HI
    go_enter Try.func66, Try.ntmps66
    go_wp2_with (go_at_call 70; ((with_reducible refine (c1.out).mono ?_); rintro e w1 hφ; rcases HΦ.out e w1 hφ with ⟨rfl, h1, h2⟩ | ⟨ch, rfl⟩))
    · go_end0
      exact hφ
    · first | exact ⟨rfl, hφ⟩ | exact hφ
set_option maxRecDepth 100000 in
set_option maxHeartbeats 1000000 in
theorem pt6 (v : Value) (own zc : Int) (P tb tm tq : Nat) (w : World) (Φ : Ending → World → Prop) (hb : Box w tb 66 #[v]) (hm : Box w tm 69 #[.pointer (some ⟨P, 0, none⟩)]) (ho : Box w tq 72 #[.int .i64 own])
    (hz : bits .and .i64 own 16 = zc) (h0 : zc = 0 → Φ (.returned (.tuple #[])) w) (h1 : zc ≠ 0 → Calls Try.prog 51 #[v, .int .i64 2, .pointer (some ⟨P, 9, none⟩)] w.drew Φ) (hΦ : ∀ e w', Φ e w' → (e = .returned (.tuple #[]) ∧ Box w' tb 66 #[v] ∧ Box w' tm 69 #[.pointer (some ⟨P, 0, none⟩)]) ∨ ∃ ch, e = .panicked ch) :
    Calls Try.prog 66 #[.int .i64 16, .func (.func 71) #[] #[.pointer (some ⟨tb, 0, none⟩), .pointer (some ⟨tm, 0, none⟩)], .pointer (some ⟨tq, 0, none⟩)] w Φ := by
  have o0 := ho.cell 0
  have hin : zc ≠ 0 → Calls Try.prog 71 #[.pointer (some ⟨tb, 0, none⟩), .pointer (some ⟨tm, 0, none⟩)] w Φ := fun hne => by
    have c1 := Lib.hid (h1 hne)
    have HΦ := Lib.hid hΦ
    have HB := Lib.hid hb
    have HM := Lib.hid hm
    clear h0 h1 hΦ hz hb hm ho o0
    go_enter Try.func71, Try.ntmps71
    refine Rx.wp_region_lex (X := fun ch Z => Φ (.panicked ch) Z) (by kernel_rfl) [] (by kernel_rfl) (· = w.drew) (fun W => Box W tb 66 #[v] ∧ Box W tm 69 #[.pointer (some ⟨P, 0, none⟩)]) (fun _ => True) rfl (fun W hW => ⟨hW ▸ ⟨HB.out.drew, HM.out.drew⟩, trivial⟩) ?_ ?_
    · rintro a' ha' _ ch Z hZ
      exact ⟨ha', hZ⟩
    repeat (first
      | (apply Rx.lex_free rfl rfl; focus (intro _; go_simp; first | done | rfl))
      | (apply Rx.lex_look rfl rfl rfl rfl; focus (intro W hW; obtain ⟨hW1, hW2⟩ := hW; have c0 := Box.cell hW1; have c1 := Box.cell hW2; clear hW1 hW2; go_simp; first | done | rfl)))
    refine Rx.lex_call (C' := fun Z => Φ (.returned (.tuple #[])) Z ∧ Box Z tb 66 #[v] ∧ Box Z tm 69 #[.pointer (some ⟨P, 0, none⟩)]) (v := .tuple #[]) (f := 51) (args := #[v, .int .i64 2, .pointer (some ⟨P, 9, none⟩)]) rfl ?_ ?_ ?_ ?_
    · intro Z hZ; clear hZ; go_simp; first | done | rfl | exact ⟨rfl, rfl⟩
    · intro Z hZ
      subst hZ
      refine (c1.out).mono fun e Z2 hφ => ?_
      rcases HΦ.out e Z2 hφ with ⟨rfl, h1, h2⟩ | ⟨ch, rfl⟩
      · exact .inl ⟨rfl, hφ, h1, h2⟩
      · exact .inr ⟨ch, rfl, hφ⟩
    · exact fun Z hZ => ⟨hZ.2, trivial⟩
    refine Rx.lex_end fun W3 hW3 => ?_
    obtain ⟨hφ, _, _⟩ := hW3
    have H3 := Lib.hid hφ
    clear hφ
    go_wp2
    go_end0
    exact H3.out
  have H0 := Lib.hid h0
  have HI := Lib.hid hin
  have HΦ := Lib.hid hΦ
  clear h0 h1 hΦ hin hb hm ho
  by_cases hc : zc = 0
  · subst hc
    have HZ := Lib.hid (H0.out rfl)
    clear H0 HI HΦ
    go_enter Try.func66, Try.ntmps66
    go_wp2
    go_end0
    exact HZ.out
  · have c1 := Lib.hid (HI.out hc)
    have hcb : (zc == 0) = false := by simpa using hc
    clear H0 HI
    go_enter Try.func66, Try.ntmps66
    go_wp2_with (go_at_call 71; ((with_reducible refine (c1.out).mono ?_); rintro e w1 hφ; rcases HΦ.out e w1 hφ with ⟨rfl, h1, h2⟩ | ⟨ch, rfl⟩))
    · go_end0
      exact hφ
    · first | exact ⟨rfl, hφ⟩ | exact hφ
set_option maxRecDepth 100000 in
set_option maxHeartbeats 1000000 in
theorem pt7 (v : Value) (own zc : Int) (P tb tm tq : Nat) (w : World) (Φ : Ending → World → Prop) (hb : Box w tb 66 #[v]) (hm : Box w tm 69 #[.pointer (some ⟨P, 0, none⟩)]) (ho : Box w tq 72 #[.int .i64 own])
    (hz : bits .and .i64 own 32 = zc) (h0 : zc = 0 → Φ (.returned (.tuple #[])) w) (h1 : zc ≠ 0 → Calls Try.prog 51 #[v, .int .i64 2, .pointer (some ⟨P, 10, none⟩)] w.drew Φ) (hΦ : ∀ e w', Φ e w' → (e = .returned (.tuple #[]) ∧ Box w' tb 66 #[v] ∧ Box w' tm 69 #[.pointer (some ⟨P, 0, none⟩)]) ∨ ∃ ch, e = .panicked ch) :
    Calls Try.prog 66 #[.int .i64 32, .func (.func 72) #[] #[.pointer (some ⟨tb, 0, none⟩), .pointer (some ⟨tm, 0, none⟩)], .pointer (some ⟨tq, 0, none⟩)] w Φ := by
  have o0 := ho.cell 0
  have hin : zc ≠ 0 → Calls Try.prog 72 #[.pointer (some ⟨tb, 0, none⟩), .pointer (some ⟨tm, 0, none⟩)] w Φ := fun hne => by
    have c1 := Lib.hid (h1 hne)
    have HΦ := Lib.hid hΦ
    have HB := Lib.hid hb
    have HM := Lib.hid hm
    clear h0 h1 hΦ hz hb hm ho o0
    go_enter Try.func72, Try.ntmps72
    refine Rx.wp_region_lex (X := fun ch Z => Φ (.panicked ch) Z) (by kernel_rfl) [] (by kernel_rfl) (· = w.drew) (fun W => Box W tb 66 #[v] ∧ Box W tm 69 #[.pointer (some ⟨P, 0, none⟩)]) (fun _ => True) rfl (fun W hW => ⟨hW ▸ ⟨HB.out.drew, HM.out.drew⟩, trivial⟩) ?_ ?_
    · rintro a' ha' _ ch Z hZ
      exact ⟨ha', hZ⟩
    repeat (first
      | (apply Rx.lex_free rfl rfl; focus (intro _; go_simp; first | done | rfl))
      | (apply Rx.lex_look rfl rfl rfl rfl; focus (intro W hW; obtain ⟨hW1, hW2⟩ := hW; have c0 := Box.cell hW1; have c1 := Box.cell hW2; clear hW1 hW2; go_simp; first | done | rfl)))
    refine Rx.lex_call (C' := fun Z => Φ (.returned (.tuple #[])) Z ∧ Box Z tb 66 #[v] ∧ Box Z tm 69 #[.pointer (some ⟨P, 0, none⟩)]) (v := .tuple #[]) (f := 51) (args := #[v, .int .i64 2, .pointer (some ⟨P, 10, none⟩)]) rfl ?_ ?_ ?_ ?_
    · intro Z hZ; clear hZ; go_simp; first | done | rfl | exact ⟨rfl, rfl⟩
    · intro Z hZ
      subst hZ
      refine (c1.out).mono fun e Z2 hφ => ?_
      rcases HΦ.out e Z2 hφ with ⟨rfl, h1, h2⟩ | ⟨ch, rfl⟩
      · exact .inl ⟨rfl, hφ, h1, h2⟩
      · exact .inr ⟨ch, rfl, hφ⟩
    · exact fun Z hZ => ⟨hZ.2, trivial⟩
    refine Rx.lex_end fun W3 hW3 => ?_
    obtain ⟨hφ, _, _⟩ := hW3
    have H3 := Lib.hid hφ
    clear hφ
    go_wp2
    go_end0
    exact H3.out
  have H0 := Lib.hid h0
  have HI := Lib.hid hin
  have HΦ := Lib.hid hΦ
  clear h0 h1 hΦ hin hb hm ho
  by_cases hc : zc = 0
  · subst hc
    have HZ := Lib.hid (H0.out rfl)
    clear H0 HI HΦ
    go_enter Try.func66, Try.ntmps66
    go_wp2
    go_end0
    exact HZ.out
  · have c1 := Lib.hid (HI.out hc)
    have hcb : (zc == 0) = false := by simpa using hc
    clear H0 HI
    go_enter Try.func66, Try.ntmps66
    go_wp2_with (go_at_call 72; ((with_reducible refine (c1.out).mono ?_); rintro e w1 hφ; rcases HΦ.out e w1 hφ with ⟨rfl, h1, h2⟩ | ⟨ch, rfl⟩))
    · go_end0
      exact hφ
    · first | exact ⟨rfl, hφ⟩ | exact hφ
set_option maxRecDepth 100000 in
set_option maxHeartbeats 1000000 in
theorem pt8 (v : Value) (own zc : Int) (P tb tm tq : Nat) (w : World) (Φ : Ending → World → Prop) (hb : Box w tb 66 #[v]) (hm : Box w tm 69 #[.pointer (some ⟨P, 0, none⟩)]) (ho : Box w tq 72 #[.int .i64 own])
    (hz : bits .and .i64 own 64 = zc) (h0 : zc = 0 → Φ (.returned (.tuple #[])) w) (h1 : zc ≠ 0 → Calls Try.prog 33 #[v, .int .i64 4, .pointer (some ⟨P, 11, none⟩)] w.drew Φ) (hΦ : ∀ e w', Φ e w' → (e = .returned (.tuple #[]) ∧ Box w' tb 66 #[v] ∧ Box w' tm 69 #[.pointer (some ⟨P, 0, none⟩)]) ∨ ∃ ch, e = .panicked ch) :
    Calls Try.prog 66 #[.int .i64 64, .func (.func 73) #[] #[.pointer (some ⟨tb, 0, none⟩), .pointer (some ⟨tm, 0, none⟩)], .pointer (some ⟨tq, 0, none⟩)] w Φ := by
  have o0 := ho.cell 0
  have hin : zc ≠ 0 → Calls Try.prog 73 #[.pointer (some ⟨tb, 0, none⟩), .pointer (some ⟨tm, 0, none⟩)] w Φ := fun hne => by
    have c1 := Lib.hid (h1 hne)
    have HΦ := Lib.hid hΦ
    have HB := Lib.hid hb
    have HM := Lib.hid hm
    clear h0 h1 hΦ hz hb hm ho o0
    go_enter Try.func73, Try.ntmps73
    refine Rx.wp_region_lex (X := fun ch Z => Φ (.panicked ch) Z) (by kernel_rfl) [] (by kernel_rfl) (· = w.drew) (fun W => Box W tb 66 #[v] ∧ Box W tm 69 #[.pointer (some ⟨P, 0, none⟩)]) (fun _ => True) rfl (fun W hW => ⟨hW ▸ ⟨HB.out.drew, HM.out.drew⟩, trivial⟩) ?_ ?_
    · rintro a' ha' _ ch Z hZ
      exact ⟨ha', hZ⟩
    repeat (first
      | (apply Rx.lex_free rfl rfl; focus (intro _; go_simp; first | done | rfl))
      | (apply Rx.lex_look rfl rfl rfl rfl; focus (intro W hW; obtain ⟨hW1, hW2⟩ := hW; have c0 := Box.cell hW1; have c1 := Box.cell hW2; clear hW1 hW2; go_simp; first | done | rfl)))
    refine Rx.lex_call (C' := fun Z => Φ (.returned (.tuple #[])) Z ∧ Box Z tb 66 #[v] ∧ Box Z tm 69 #[.pointer (some ⟨P, 0, none⟩)]) (v := .tuple #[]) (f := 33) (args := #[v, .int .i64 4, .pointer (some ⟨P, 11, none⟩)]) rfl ?_ ?_ ?_ ?_
    · intro Z hZ; clear hZ; go_simp; first | done | rfl | exact ⟨rfl, rfl⟩
    · intro Z hZ
      subst hZ
      refine (c1.out).mono fun e Z2 hφ => ?_
      rcases HΦ.out e Z2 hφ with ⟨rfl, h1, h2⟩ | ⟨ch, rfl⟩
      · exact .inl ⟨rfl, hφ, h1, h2⟩
      · exact .inr ⟨ch, rfl, hφ⟩
    · exact fun Z hZ => ⟨hZ.2, trivial⟩
    refine Rx.lex_end fun W3 hW3 => ?_
    obtain ⟨hφ, _, _⟩ := hW3
    have H3 := Lib.hid hφ
    clear hφ
    go_wp2
    go_end0
    exact H3.out
  have H0 := Lib.hid h0
  have HI := Lib.hid hin
  have HΦ := Lib.hid hΦ
  clear h0 h1 hΦ hin hb hm ho
  by_cases hc : zc = 0
  · subst hc
    have HZ := Lib.hid (H0.out rfl)
    clear H0 HI HΦ
    go_enter Try.func66, Try.ntmps66
    go_wp2
    go_end0
    exact HZ.out
  · have c1 := Lib.hid (HI.out hc)
    have hcb : (zc == 0) = false := by simpa using hc
    clear H0 HI
    go_enter Try.func66, Try.ntmps66
    go_wp2_with (go_at_call 73; ((with_reducible refine (c1.out).mono ?_); rintro e w1 hφ; rcases HΦ.out e w1 hφ with ⟨rfl, h1, h2⟩ | ⟨ch, rfl⟩))
    · go_end0
      exact hφ
    · first | exact ⟨rfl, hφ⟩ | exact hφ
set_option maxRecDepth 100000 in
set_option maxHeartbeats 1000000 in
theorem pt9 (v : Value) (own zc : Int) (P tb tm tq : Nat) (w : World) (Φ : Ending → World → Prop) (hb : Box w tb 66 #[v]) (hm : Box w tm 69 #[.pointer (some ⟨P, 0, none⟩)]) (ho : Box w tq 72 #[.int .i64 own])
    (hz : bits .and .i64 own 128 = zc) (h0 : zc = 0 → Φ (.returned (.tuple #[])) w) (h1 : zc ≠ 0 → Calls Try.prog 75 #[v, .int .i64 8, .pointer (some ⟨P, 12, none⟩)] w.drew Φ) (hΦ : ∀ e w', Φ e w' → (e = .returned (.tuple #[]) ∧ Box w' tb 66 #[v] ∧ Box w' tm 69 #[.pointer (some ⟨P, 0, none⟩)]) ∨ ∃ ch, e = .panicked ch) :
    Calls Try.prog 66 #[.int .i64 128, .func (.func 74) #[] #[.pointer (some ⟨tb, 0, none⟩), .pointer (some ⟨tm, 0, none⟩)], .pointer (some ⟨tq, 0, none⟩)] w Φ := by
  have o0 := ho.cell 0
  have hin : zc ≠ 0 → Calls Try.prog 74 #[.pointer (some ⟨tb, 0, none⟩), .pointer (some ⟨tm, 0, none⟩)] w Φ := fun hne => by
    have c1 := Lib.hid (h1 hne)
    have HΦ := Lib.hid hΦ
    have HB := Lib.hid hb
    have HM := Lib.hid hm
    clear h0 h1 hΦ hz hb hm ho o0
    go_enter Try.func74, Try.ntmps74
    refine Rx.wp_region_lex (X := fun ch Z => Φ (.panicked ch) Z) (by kernel_rfl) [] (by kernel_rfl) (· = w.drew) (fun W => Box W tb 66 #[v] ∧ Box W tm 69 #[.pointer (some ⟨P, 0, none⟩)]) (fun _ => True) rfl (fun W hW => ⟨hW ▸ ⟨HB.out.drew, HM.out.drew⟩, trivial⟩) ?_ ?_
    · rintro a' ha' _ ch Z hZ
      exact ⟨ha', hZ⟩
    repeat (first
      | (apply Rx.lex_free rfl rfl; focus (intro _; go_simp; first | done | rfl))
      | (apply Rx.lex_look rfl rfl rfl rfl; focus (intro W hW; obtain ⟨hW1, hW2⟩ := hW; have c0 := Box.cell hW1; have c1 := Box.cell hW2; clear hW1 hW2; go_simp; first | done | rfl)))
    refine Rx.lex_call (C' := fun Z => Φ (.returned (.tuple #[])) Z ∧ Box Z tb 66 #[v] ∧ Box Z tm 69 #[.pointer (some ⟨P, 0, none⟩)]) (v := .tuple #[]) (f := 75) (args := #[v, .int .i64 8, .pointer (some ⟨P, 12, none⟩)]) rfl ?_ ?_ ?_ ?_
    · intro Z hZ; clear hZ; go_simp; first | done | rfl | exact ⟨rfl, rfl⟩
    · intro Z hZ
      subst hZ
      refine (c1.out).mono fun e Z2 hφ => ?_
      rcases HΦ.out e Z2 hφ with ⟨rfl, h1, h2⟩ | ⟨ch, rfl⟩
      · exact .inl ⟨rfl, hφ, h1, h2⟩
      · exact .inr ⟨ch, rfl, hφ⟩
    · exact fun Z hZ => ⟨hZ.2, trivial⟩
    refine Rx.lex_end fun W3 hW3 => ?_
    obtain ⟨hφ, _, _⟩ := hW3
    have H3 := Lib.hid hφ
    clear hφ
    go_wp2
    go_end0
    exact H3.out
  have H0 := Lib.hid h0
  have HI := Lib.hid hin
  have HΦ := Lib.hid hΦ
  clear h0 h1 hΦ hin hb hm ho
  by_cases hc : zc = 0
  · subst hc
    have HZ := Lib.hid (H0.out rfl)
    clear H0 HI HΦ
    go_enter Try.func66, Try.ntmps66
    go_wp2
    go_end0
    exact HZ.out
  · have c1 := Lib.hid (HI.out hc)
    have hcb : (zc == 0) = false := by simpa using hc
    clear H0 HI
    go_enter Try.func66, Try.ntmps66
    go_wp2_with (go_at_call 74; ((with_reducible refine (c1.out).mono ?_); rintro e w1 hφ; rcases HΦ.out e w1 hφ with ⟨rfl, h1, h2⟩ | ⟨ch, rfl⟩))
    · go_end0
      exact hφ
    · first | exact ⟨rfl, hφ⟩ | exact hφ
set_option maxRecDepth 100000 in
set_option maxHeartbeats 1000000 in
theorem pt10 (v : Value) (own zc : Int) (P tb tm tq : Nat) (w : World) (Φ : Ending → World → Prop) (hb : Box w tb 66 #[v]) (hm : Box w tm 69 #[.pointer (some ⟨P, 0, none⟩)]) (ho : Box w tq 72 #[.int .i64 own])
    (hz : bits .and .i64 own 256 = zc) (h0 : zc = 0 → Φ (.returned (.tuple #[])) w) (h1 : zc ≠ 0 → Calls Try.prog 77 #[v, .int .i64 1, .pointer (some ⟨P, 13, none⟩), .func (.func 78) #[] #[]] w.drew Φ) (hΦ : ∀ e w', Φ e w' → (e = .returned (.tuple #[]) ∧ Box w' tb 66 #[v] ∧ Box w' tm 69 #[.pointer (some ⟨P, 0, none⟩)]) ∨ ∃ ch, e = .panicked ch) :
    Calls Try.prog 66 #[.int .i64 256, .func (.func 76) #[] #[.pointer (some ⟨tb, 0, none⟩), .pointer (some ⟨tm, 0, none⟩)], .pointer (some ⟨tq, 0, none⟩)] w Φ := by
  have o0 := ho.cell 0
  have hin : zc ≠ 0 → Calls Try.prog 76 #[.pointer (some ⟨tb, 0, none⟩), .pointer (some ⟨tm, 0, none⟩)] w Φ := fun hne => by
    have c1 := Lib.hid (h1 hne)
    have HΦ := Lib.hid hΦ
    have HB := Lib.hid hb
    have HM := Lib.hid hm
    clear h0 h1 hΦ hz hb hm ho o0
    go_enter Try.func76, Try.ntmps76
    refine Rx.wp_region_lex (X := fun ch Z => Φ (.panicked ch) Z) (by kernel_rfl) [] (by kernel_rfl) (· = w.drew) (fun W => Box W tb 66 #[v] ∧ Box W tm 69 #[.pointer (some ⟨P, 0, none⟩)]) (fun _ => True) rfl (fun W hW => ⟨hW ▸ ⟨HB.out.drew, HM.out.drew⟩, trivial⟩) ?_ ?_
    · rintro a' ha' _ ch Z hZ
      exact ⟨ha', hZ⟩
    repeat (first
      | (apply Rx.lex_free rfl rfl; focus (intro _; go_simp; first | done | rfl))
      | (apply Rx.lex_look rfl rfl rfl rfl; focus (intro W hW; obtain ⟨hW1, hW2⟩ := hW; have c0 := Box.cell hW1; have c1 := Box.cell hW2; clear hW1 hW2; go_simp; first | done | rfl)))
    refine Rx.lex_call (C' := fun Z => Φ (.returned (.tuple #[])) Z ∧ Box Z tb 66 #[v] ∧ Box Z tm 69 #[.pointer (some ⟨P, 0, none⟩)]) (v := .tuple #[]) (f := 77) (args := #[v, .int .i64 1, .pointer (some ⟨P, 13, none⟩), .func (.func 78) #[] #[]]) rfl ?_ ?_ ?_ ?_
    · intro Z hZ; clear hZ; go_simp; first | done | rfl | exact ⟨rfl, rfl⟩
    · intro Z hZ
      subst hZ
      refine (c1.out).mono fun e Z2 hφ => ?_
      rcases HΦ.out e Z2 hφ with ⟨rfl, h1, h2⟩ | ⟨ch, rfl⟩
      · exact .inl ⟨rfl, hφ, h1, h2⟩
      · exact .inr ⟨ch, rfl, hφ⟩
    · exact fun Z hZ => ⟨hZ.2, trivial⟩
    refine Rx.lex_end fun W3 hW3 => ?_
    obtain ⟨hφ, _, _⟩ := hW3
    have H3 := Lib.hid hφ
    clear hφ
    go_wp2
    go_end0
    exact H3.out
  have H0 := Lib.hid h0
  have HI := Lib.hid hin
  have HΦ := Lib.hid hΦ
  clear h0 h1 hΦ hin hb hm ho
  by_cases hc : zc = 0
  · subst hc
    have HZ := Lib.hid (H0.out rfl)
    clear H0 HI HΦ
    go_enter Try.func66, Try.ntmps66
    go_wp2
    go_end0
    exact HZ.out
  · have c1 := Lib.hid (HI.out hc)
    have hcb : (zc == 0) = false := by simpa using hc
    clear H0 HI
    go_enter Try.func66, Try.ntmps66
    go_wp2_with (go_at_call 76; ((with_reducible refine (c1.out).mono ?_); rintro e w1 hφ; rcases HΦ.out e w1 hφ with ⟨rfl, h1, h2⟩ | ⟨ch, rfl⟩))
    · go_end0
      exact hφ
    · first | exact ⟨rfl, hφ⟩ | exact hφ
set_option maxRecDepth 100000 in
set_option maxHeartbeats 1000000 in
theorem pt11 (v : Value) (own zc : Int) (P tb tm tq : Nat) (w : World) (Φ : Ending → World → Prop) (hb : Box w tb 66 #[v]) (hm : Box w tm 69 #[.pointer (some ⟨P, 0, none⟩)]) (ho : Box w tq 72 #[.int .i64 own])
    (hz : bits .and .i64 own 512 = zc) (h0 : zc = 0 → Φ (.returned (.tuple #[])) w) (h1 : zc ≠ 0 → Calls Try.prog 80 #[v, .int .i64 1, .pointer (some ⟨P, 14, none⟩), .func (.func 81) #[] #[]] w.drew Φ) (hΦ : ∀ e w', Φ e w' → (e = .returned (.tuple #[]) ∧ Box w' tb 66 #[v] ∧ Box w' tm 69 #[.pointer (some ⟨P, 0, none⟩)]) ∨ ∃ ch, e = .panicked ch) :
    Calls Try.prog 66 #[.int .i64 512, .func (.func 79) #[] #[.pointer (some ⟨tb, 0, none⟩), .pointer (some ⟨tm, 0, none⟩)], .pointer (some ⟨tq, 0, none⟩)] w Φ := by
  have o0 := ho.cell 0
  have hin : zc ≠ 0 → Calls Try.prog 79 #[.pointer (some ⟨tb, 0, none⟩), .pointer (some ⟨tm, 0, none⟩)] w Φ := fun hne => by
    have c1 := Lib.hid (h1 hne)
    have HΦ := Lib.hid hΦ
    have HB := Lib.hid hb
    have HM := Lib.hid hm
    clear h0 h1 hΦ hz hb hm ho o0
    go_enter Try.func79, Try.ntmps79
    refine Rx.wp_region_lex (X := fun ch Z => Φ (.panicked ch) Z) (by kernel_rfl) [] (by kernel_rfl) (· = w.drew) (fun W => Box W tb 66 #[v] ∧ Box W tm 69 #[.pointer (some ⟨P, 0, none⟩)]) (fun _ => True) rfl (fun W hW => ⟨hW ▸ ⟨HB.out.drew, HM.out.drew⟩, trivial⟩) ?_ ?_
    · rintro a' ha' _ ch Z hZ
      exact ⟨ha', hZ⟩
    repeat (first
      | (apply Rx.lex_free rfl rfl; focus (intro _; go_simp; first | done | rfl))
      | (apply Rx.lex_look rfl rfl rfl rfl; focus (intro W hW; obtain ⟨hW1, hW2⟩ := hW; have c0 := Box.cell hW1; have c1 := Box.cell hW2; clear hW1 hW2; go_simp; first | done | rfl)))
    refine Rx.lex_call (C' := fun Z => Φ (.returned (.tuple #[])) Z ∧ Box Z tb 66 #[v] ∧ Box Z tm 69 #[.pointer (some ⟨P, 0, none⟩)]) (v := .tuple #[]) (f := 80) (args := #[v, .int .i64 1, .pointer (some ⟨P, 14, none⟩), .func (.func 81) #[] #[]]) rfl ?_ ?_ ?_ ?_
    · intro Z hZ; clear hZ; go_simp; first | done | rfl | exact ⟨rfl, rfl⟩
    · intro Z hZ
      subst hZ
      refine (c1.out).mono fun e Z2 hφ => ?_
      rcases HΦ.out e Z2 hφ with ⟨rfl, h1, h2⟩ | ⟨ch, rfl⟩
      · exact .inl ⟨rfl, hφ, h1, h2⟩
      · exact .inr ⟨ch, rfl, hφ⟩
    · exact fun Z hZ => ⟨hZ.2, trivial⟩
    refine Rx.lex_end fun W3 hW3 => ?_
    obtain ⟨hφ, _, _⟩ := hW3
    have H3 := Lib.hid hφ
    clear hφ
    go_wp2
    go_end0
    exact H3.out
  have H0 := Lib.hid h0
  have HI := Lib.hid hin
  have HΦ := Lib.hid hΦ
  clear h0 h1 hΦ hin hb hm ho
  by_cases hc : zc = 0
  · subst hc
    have HZ := Lib.hid (H0.out rfl)
    clear H0 HI HΦ
    go_enter Try.func66, Try.ntmps66
    go_wp2
    go_end0
    exact HZ.out
  · have c1 := Lib.hid (HI.out hc)
    have hcb : (zc == 0) = false := by simpa using hc
    clear H0 HI
    go_enter Try.func66, Try.ntmps66
    go_wp2_with (go_at_call 79; ((with_reducible refine (c1.out).mono ?_); rintro e w1 hφ; rcases HΦ.out e w1 hφ with ⟨rfl, h1, h2⟩ | ⟨ch, rfl⟩))
    · go_end0
      exact hφ
    · first | exact ⟨rfl, hφ⟩ | exact hφ
set_option maxRecDepth 100000 in
set_option maxHeartbeats 1000000 in
theorem pt12 (v : Value) (own zc : Int) (P tb tm tq : Nat) (w : World) (Φ : Ending → World → Prop) (hb : Box w tb 66 #[v]) (hm : Box w tm 69 #[.pointer (some ⟨P, 0, none⟩)]) (ho : Box w tq 72 #[.int .i64 own])
    (hz : bits .and .i64 own 1024 = zc) (h0 : zc = 0 → Φ (.returned (.tuple #[])) w) (h1 : zc ≠ 0 → Calls Try.prog 83 #[v, .int .i64 1, .pointer (some ⟨P, 15, none⟩), .func (.func 84) #[] #[]] w.drew Φ) (hΦ : ∀ e w', Φ e w' → (e = .returned (.tuple #[]) ∧ Box w' tb 66 #[v] ∧ Box w' tm 69 #[.pointer (some ⟨P, 0, none⟩)]) ∨ ∃ ch, e = .panicked ch) :
    Calls Try.prog 66 #[.int .i64 1024, .func (.func 82) #[] #[.pointer (some ⟨tb, 0, none⟩), .pointer (some ⟨tm, 0, none⟩)], .pointer (some ⟨tq, 0, none⟩)] w Φ := by
  have o0 := ho.cell 0
  have hin : zc ≠ 0 → Calls Try.prog 82 #[.pointer (some ⟨tb, 0, none⟩), .pointer (some ⟨tm, 0, none⟩)] w Φ := fun hne => by
    have c1 := Lib.hid (h1 hne)
    have HΦ := Lib.hid hΦ
    have HB := Lib.hid hb
    have HM := Lib.hid hm
    clear h0 h1 hΦ hz hb hm ho o0
    go_enter Try.func82, Try.ntmps82
    refine Rx.wp_region_lex (X := fun ch Z => Φ (.panicked ch) Z) (by kernel_rfl) [] (by kernel_rfl) (· = w.drew) (fun W => Box W tb 66 #[v] ∧ Box W tm 69 #[.pointer (some ⟨P, 0, none⟩)]) (fun _ => True) rfl (fun W hW => ⟨hW ▸ ⟨HB.out.drew, HM.out.drew⟩, trivial⟩) ?_ ?_
    · rintro a' ha' _ ch Z hZ
      exact ⟨ha', hZ⟩
    repeat (first
      | (apply Rx.lex_free rfl rfl; focus (intro _; go_simp; first | done | rfl))
      | (apply Rx.lex_look rfl rfl rfl rfl; focus (intro W hW; obtain ⟨hW1, hW2⟩ := hW; have c0 := Box.cell hW1; have c1 := Box.cell hW2; clear hW1 hW2; go_simp; first | done | rfl)))
    refine Rx.lex_call (C' := fun Z => Φ (.returned (.tuple #[])) Z ∧ Box Z tb 66 #[v] ∧ Box Z tm 69 #[.pointer (some ⟨P, 0, none⟩)]) (v := .tuple #[]) (f := 83) (args := #[v, .int .i64 1, .pointer (some ⟨P, 15, none⟩), .func (.func 84) #[] #[]]) rfl ?_ ?_ ?_ ?_
    · intro Z hZ; clear hZ; go_simp; first | done | rfl | exact ⟨rfl, rfl⟩
    · intro Z hZ
      subst hZ
      refine (c1.out).mono fun e Z2 hφ => ?_
      rcases HΦ.out e Z2 hφ with ⟨rfl, h1, h2⟩ | ⟨ch, rfl⟩
      · exact .inl ⟨rfl, hφ, h1, h2⟩
      · exact .inr ⟨ch, rfl, hφ⟩
    · exact fun Z hZ => ⟨hZ.2, trivial⟩
    refine Rx.lex_end fun W3 hW3 => ?_
    obtain ⟨hφ, _, _⟩ := hW3
    have H3 := Lib.hid hφ
    clear hφ
    go_wp2
    go_end0
    exact H3.out
  have H0 := Lib.hid h0
  have HI := Lib.hid hin
  have HΦ := Lib.hid hΦ
  clear h0 h1 hΦ hin hb hm ho
  by_cases hc : zc = 0
  · subst hc
    have HZ := Lib.hid (H0.out rfl)
    clear H0 HI HΦ
    go_enter Try.func66, Try.ntmps66
    go_wp2
    go_end0
    exact HZ.out
  · have c1 := Lib.hid (HI.out hc)
    have hcb : (zc == 0) = false := by simpa using hc
    clear H0 HI
    go_enter Try.func66, Try.ntmps66
    go_wp2_with (go_at_call 82; ((with_reducible refine (c1.out).mono ?_); rintro e w1 hφ; rcases HΦ.out e w1 hφ with ⟨rfl, h1, h2⟩ | ⟨ch, rfl⟩))
    · go_end0
      exact hφ
    · first | exact ⟨rfl, hφ⟩ | exact hφ
end Go.Proofs.Ytgmlbimgcifenaa
namespace Go.Proofs.Ytgmlbimgcifenaa
open Go.RowKit Go.Shelf
set_option linter.unusedVariables false
set_option linter.unusedSimpArgs false

set_option maxRecDepth 100000 in
set_option maxHeartbeats 1000000 in
theorem layu16_w (size : Nat) (z : Int) (hz : z = size) (x : Int) (P o : Nat) (t : TypeId) (cs : Array Value) (bs : List Int) (b Bb Bp : Nat) (w : World) (hs : size ≤ 8) (hx : 0 ≤ x ∧ x ≤ 65535) (hbB : b ≤ Bb) (h : Wr b Bb Bp bs w) (hl : bs.length + size ≤ 65536) (hP : Box w P t cs) (ho : cs[o]? = some (.int .u16 x)) (h1 : t ≠ 27) (h2 : t ≠ 5) (h3 : t ≠ 68) :
    Calls Try.prog 52 #[.func (.func 54) #[] #[.pointer (some ⟨Bp, 0, none⟩)], .int .i64 z, .pointer (some ⟨P, o, none⟩)] w fun e w' => e = .returned (.tuple #[]) ∧ Wr b Bb Bp (bs ++ Im.bytesOf size (IntKind.u64.wrap x)) w' ∧ Wrote b Bb w w' := by
  subst hz
  have hwb : IntKind.u16.wrap (IntKind.u64.wrap x) = x := by rw [IntKind.wrap_u16, IntKind.wrap_u64]; omega
  have hvr : 0 ≤ IntKind.u64.wrap x ∧ IntKind.u64.wrap x ≤ 18446744073709551615 := by rw [IntKind.wrap_u64]; omega
  obtain ⟨v, hv⟩ : ∃ v, v = IntKind.u64.wrap x := ⟨_, rfl⟩
  rw [← hv] at hwb hvr ⊢
  have cw := Lib.hid (write_any size v bs b Bb Bp w hs hvr hbB h hl)
  have HH := Lib.hid h
  have HP := Lib.hid hP
  have hvv : IntKind.u64.wrap x = v := hv.symm
  clear hv
  have k0 := hP.cell o
  rw [ho] at k0
  have HO := Lib.hid ho
  clear h hP ho
  go_enter Try.func52, Try.ntmps52
  go_wp2_with (go_at_call 54; ((with_reducible refine (cw.out).mono ?_); rintro e w1 ⟨rfl, hI1, hK1⟩; have P1 := Lib.hid (HP.out.wrote' hK1 HH.out.isvar h1 h2); have I1 := Lib.hid hI1; have K1 := Lib.hid hK1; have k1 := P1.out.cell o; rw [HO.out] at k1; have f1 := P1.out.free o; clear hI1 hK1 k0))
  go_end0
  exact ⟨rfl, I1.out.off (p := ⟨P, o, none⟩) P1.out h3 h1 h2 _, K1.out.noop P1.out HO.out⟩

set_option maxRecDepth 100000 in
set_option maxHeartbeats 1000000 in
theorem part_u16 (size : Nat) (z : Int) (hz : z = size) (x0 : Int) (P o : Nat) (t : TypeId) (cs : Array Value) (bs : List Int) (b Bb Bp : Nat) (w : World) (hs : 1 ≤ size ∧ size ≤ 2) (hBy : Im.IsBytes bs) (hbB : b ≤ Bb) (hbP : b ≤ P) (hbw : b ≤ w.heap.size) (h : Rd b Bb Bp bs w) (hP : Box w P t cs) (ho : cs[o]? = some (.int .u16 x0)) (h1 : t ≠ 27) (h2 : t ≠ 5) (h3 : t ≠ 68) :
    Calls Try.prog 52 #[.func (.func 60) #[] #[.pointer (some ⟨Bp, 0, none⟩)], .int .i64 z, .pointer (some ⟨P, o, none⟩)] w (Got b Bb Bp P t cs.size (Im.rdn size bs) (fun y => cs.setIfInBounds o (.int .u16 (y))) w) := by
  subst hz
  have HP := Lib.hid hP
  have k0 := hP.cell o
  rw [ho] at k0
  cases hr : Im.rdn size bs with
  | none =>
    have cr := fun v0 => Lib.hid (read_few size size rfl v0 bs b Bb Bp w (Im.rdn_none hr) h)
    clear h hP ho hs hr
    go_enter Try.func52, Try.ntmps52
    go_wp2_with (go_at_call 60; ((with_reducible refine ((cr _).out).mono ?_); rintro e w2 ⟨⟨s, rfl⟩, rfl⟩))
    first | exact ⟨rfl, .inr ⟨rfl, ⟨_, rfl⟩, Rk.refl _ _ _ _, _, HP.out, rfl⟩⟩ | exact .inr ⟨rfl, ⟨_, rfl⟩, Rk.refl _ _ _ _, _, HP.out, rfl⟩
  | some q =>
    obtain ⟨y, rest⟩ := q
    obtain ⟨_, y0, y1, _⟩ := Im.rdn_inv hBy hr
    have y2 : y < 2 ^ (8 * 2) := Int.lt_of_lt_of_le y1 (by have := Nat.pow_le_pow_right (show 0 < 2 by decide) (show 8 * size ≤ 8 * 2 by omega); exact_mod_cast this)
    have hwb : IntKind.u16.wrap y = y := by rw [IntKind.wrap_u16]; omega
    have cr := fun v0 => Lib.hid (read_all size size rfl v0 y bs rest b Bb Bp w (by omega) hBy hr hbB h)
    have HH := Lib.hid h.isvar
    have HO := Lib.hid ho
    have HB := Lib.hid hbP
    clear h hP ho hr y0 y1 y2
    go_enter Try.func52, Try.ntmps52
    go_wp2_with (go_at_call 60; ((with_reducible refine ((cr _).out).mono ?_); rintro e w1 ⟨rfl, hI1, hK1⟩; have P1 := Lib.hid (HP.out.wrote' hK1 HH.out h1 h2); have I1 := Lib.hid hI1; have K1 := Lib.hid hK1; have k1 := P1.out.cell o; rw [HO.out] at k1; have f1 := P1.out.free o; clear hI1 hK1 k0))
    go_end0
    exact .inl ⟨y, rest, rfl, rfl, I1.out.off (p := ⟨P, o, none⟩) P1.out h3 h1 HB.out _, ⟨(K1.out.to hbw).setCell HB.out _, ((Kb.refl (B := P) w).wrote K1.out HH.out).put o _⟩, by show Box _ _ _ (cs.setIfInBounds o (.int .u16 (y))); (try rw [hwb]); exact P1.out.put o _⟩
set_option maxRecDepth 100000 in
set_option maxHeartbeats 1000000 in
theorem layu32_w (size : Nat) (z : Int) (hz : z = size) (x : Int) (P o : Nat) (t : TypeId) (cs : Array Value) (bs : List Int) (b Bb Bp : Nat) (w : World) (hs : size ≤ 8) (hx : 0 ≤ x ∧ x ≤ 4294967295) (hbB : b ≤ Bb) (h : Wr b Bb Bp bs w) (hl : bs.length + size ≤ 65536) (hP : Box w P t cs) (ho : cs[o]? = some (.int .u32 x)) (h1 : t ≠ 27) (h2 : t ≠ 5) (h3 : t ≠ 68) :
    Calls Try.prog 33 #[.func (.func 54) #[] #[.pointer (some ⟨Bp, 0, none⟩)], .int .i64 z, .pointer (some ⟨P, o, none⟩)] w fun e w' => e = .returned (.tuple #[]) ∧ Wr b Bb Bp (bs ++ Im.bytesOf size (IntKind.u64.wrap x)) w' ∧ Wrote b Bb w w' := by
  subst hz
  have hwb : IntKind.u32.wrap (IntKind.u64.wrap x) = x := by rw [IntKind.wrap_u32, IntKind.wrap_u64]; omega
  have hvr : 0 ≤ IntKind.u64.wrap x ∧ IntKind.u64.wrap x ≤ 18446744073709551615 := by rw [IntKind.wrap_u64]; omega
  obtain ⟨v, hv⟩ : ∃ v, v = IntKind.u64.wrap x := ⟨_, rfl⟩
  rw [← hv] at hwb hvr ⊢
  have cw := Lib.hid (write_any size v bs b Bb Bp w hs hvr hbB h hl)
  have HH := Lib.hid h
  have HP := Lib.hid hP
  have hvv : IntKind.u64.wrap x = v := hv.symm
  clear hv
  have k0 := hP.cell o
  rw [ho] at k0
  have HO := Lib.hid ho
  clear h hP ho
  go_enter Try.func33, Try.ntmps33
  go_wp2_with (go_at_call 54; ((with_reducible refine (cw.out).mono ?_); rintro e w1 ⟨rfl, hI1, hK1⟩; have P1 := Lib.hid (HP.out.wrote' hK1 HH.out.isvar h1 h2); have I1 := Lib.hid hI1; have K1 := Lib.hid hK1; have k1 := P1.out.cell o; rw [HO.out] at k1; have f1 := P1.out.free o; clear hI1 hK1 k0))
  go_end0
  exact ⟨rfl, I1.out.off (p := ⟨P, o, none⟩) P1.out h3 h1 h2 _, K1.out.noop P1.out HO.out⟩

set_option maxRecDepth 100000 in
set_option maxHeartbeats 1000000 in
theorem part_u32 (size : Nat) (z : Int) (hz : z = size) (x0 : Int) (P o : Nat) (t : TypeId) (cs : Array Value) (bs : List Int) (b Bb Bp : Nat) (w : World) (hs : 1 ≤ size ∧ size ≤ 4) (hBy : Im.IsBytes bs) (hbB : b ≤ Bb) (hbP : b ≤ P) (hbw : b ≤ w.heap.size) (h : Rd b Bb Bp bs w) (hP : Box w P t cs) (ho : cs[o]? = some (.int .u32 x0)) (h1 : t ≠ 27) (h2 : t ≠ 5) (h3 : t ≠ 68) :
    Calls Try.prog 33 #[.func (.func 60) #[] #[.pointer (some ⟨Bp, 0, none⟩)], .int .i64 z, .pointer (some ⟨P, o, none⟩)] w (Got b Bb Bp P t cs.size (Im.rdn size bs) (fun y => cs.setIfInBounds o (.int .u32 (y))) w) := by
  subst hz
  have HP := Lib.hid hP
  have k0 := hP.cell o
  rw [ho] at k0
  cases hr : Im.rdn size bs with
  | none =>
    have cr := fun v0 => Lib.hid (read_few size size rfl v0 bs b Bb Bp w (Im.rdn_none hr) h)
    clear h hP ho hs hr
    go_enter Try.func33, Try.ntmps33
    go_wp2_with (go_at_call 60; ((with_reducible refine ((cr _).out).mono ?_); rintro e w2 ⟨⟨s, rfl⟩, rfl⟩))
    first | exact ⟨rfl, .inr ⟨rfl, ⟨_, rfl⟩, Rk.refl _ _ _ _, _, HP.out, rfl⟩⟩ | exact .inr ⟨rfl, ⟨_, rfl⟩, Rk.refl _ _ _ _, _, HP.out, rfl⟩
  | some q =>
    obtain ⟨y, rest⟩ := q
    obtain ⟨_, y0, y1, _⟩ := Im.rdn_inv hBy hr
    have y2 : y < 2 ^ (8 * 4) := Int.lt_of_lt_of_le y1 (by have := Nat.pow_le_pow_right (show 0 < 2 by decide) (show 8 * size ≤ 8 * 4 by omega); exact_mod_cast this)
    have hwb : IntKind.u32.wrap y = y := by rw [IntKind.wrap_u32]; omega
    have cr := fun v0 => Lib.hid (read_all size size rfl v0 y bs rest b Bb Bp w (by omega) hBy hr hbB h)
    have HH := Lib.hid h.isvar
    have HO := Lib.hid ho
    have HB := Lib.hid hbP
    clear h hP ho hr y0 y1 y2
    go_enter Try.func33, Try.ntmps33
    go_wp2_with (go_at_call 60; ((with_reducible refine ((cr _).out).mono ?_); rintro e w1 ⟨rfl, hI1, hK1⟩; have P1 := Lib.hid (HP.out.wrote' hK1 HH.out h1 h2); have I1 := Lib.hid hI1; have K1 := Lib.hid hK1; have k1 := P1.out.cell o; rw [HO.out] at k1; have f1 := P1.out.free o; clear hI1 hK1 k0))
    go_end0
    exact .inl ⟨y, rest, rfl, rfl, I1.out.off (p := ⟨P, o, none⟩) P1.out h3 h1 HB.out _, ⟨(K1.out.to hbw).setCell HB.out _, ((Kb.refl (B := P) w).wrote K1.out HH.out).put o _⟩, by show Box _ _ _ (cs.setIfInBounds o (.int .u32 (y))); (try rw [hwb]); exact P1.out.put o _⟩
end Go.Proofs.Ytgmlbimgcifenaa
namespace Ms
/-- A part's bytes. -/
def part (m : M) (c : Int) : List Int := if c = 115 then Im.bytesOf 1 m.slot else if c = 103 then Im.bytesOf 2 m.gen else if c = 102 then Im.bytesOf 4 m.frame else if c = 99 then Im.bytesOf 1 m.code else if c = 110 then Im.bytesOf 2 m.n else if c = 111 then Im.bytesOf 2 m.of else if c = 98 then Im.bytesOf 4 m.bits else if c = 109 then Im.bytesOf 8 m.sum else if c = 105 then Im.bytesOf 1 (m.ins.length : Int) ++ m.ins.flatMap En.inBytes else if c = 108 then Im.bytesOf 1 (m.log.length : Int) ++ m.log.flatMap Ms.logBytes else Im.bytesOf 1 (m.data.length : Int) ++ m.data
def head (m : M) : List Int := Im.bytesOf 1 m.kind ++ Im.bytesOf 1 m.frm ++ Im.bytesOf 2 m.serial ++ Im.bytesOf 2 m.ack ++ Im.bytesOf 4 m.seen
def body (m : M) : List Int := head m ++ (has m.kind).flatMap (part m)
def put (m : M) : List Int := Im.bytesOf 4 ((Crc.sum (body m) : Nat) : Int) ++ body m
/-- What may be is within its bounds. -/
structure Bd (m : M) : Prop where
  kind : 0 ≤ m.kind ∧ m.kind ≤ 14
  frm : 0 ≤ m.frm ∧ m.frm ≤ 11
  slot : 0 ≤ m.slot ∧ m.slot ≤ 7
  frame : 0 ≤ m.frame ∧ m.frame ≤ 1048576
  code : 0 ≤ m.code ∧ m.code ≤ 9
  n : 0 ≤ m.n ∧ m.n ≤ 65535
  gen : 103 ∈ has m.kind → 1 ≤ m.gen ∧ m.gen ≤ 60000
  of : 111 ∈ has m.kind → 1 ≤ m.of ∧ m.of ≤ 65535
  ins : 105 ∈ has m.kind → m.ins.length ≤ 16
  log : 108 ∈ has m.kind → m.log.length ≤ 16
  data : 100 ∈ has m.kind → m.data.length ≤ 64
theorem Ok.bd {m : M} (h : Ok m) : Bd m := by
  have h1 := h.n1
  have h2 := h.n2
  have h3 := h.n3
  unfold no1 at h1
  unfold no2 at h2
  unfold no3 at h3
  simp only [Bool.or_eq_false_iff, decide_eq_false_iff_not] at h1
  obtain ⟨⟨⟨⟨⟨⟨⟨⟨⟨⟨⟨⟨_, _⟩, _⟩, _⟩, _⟩, _⟩, _⟩, _⟩, _⟩, _⟩, _⟩, _⟩, _⟩ := h1
  refine ⟨by omega, by omega, by omega, by omega, by omega, by omega, fun hc => ?_, fun hc => ?_, fun hc => ?_, fun hc => ?_, fun hc => ?_⟩
  all_goals
    have hc' := List.contains_iff_mem.2 hc
    simp only [Bool.or_eq_false_iff, Bool.and_eq_false_iff, hc', Bool.true_eq_false, false_or, decide_eq_false_iff_not] at h2 h3
    omega
end Ms
namespace Go.Proofs.Ytgmlbimgcifenaa
open Go.RowKit
set_option linter.unusedVariables false

set_option linter.unusedSimpArgs false

theorem has_mem {k c : Int} (h : c ∈ Ms.has k) : c = 115 ∨ c = 103 ∨ c = 102 ∨ c = 99 ∨ c = 110 ∨ c = 111 ∨ c = 98 ∨ c = 109 ∨ c = 105 ∨ c = 108 ∨ c = 100 := by
  revert c
  refine Ms.has_cases (Q := fun l => ∀ {c : Int}, c ∈ l → c = 115 ∨ c = 103 ∨ c = 102 ∨ c = 99 ∨ c = 110 ∨ c = 111 ∨ c = 98 ∨ c = 109 ∨ c = 105 ∨ c = 108 ∨ c = 100) k ?_ ?_ ?_ ?_ ?_ ?_ ?_ ?_ ?_ ?_
  all_goals
    intro c hc
    simp at hc
    try omega
end Go.Proofs.Ytgmlbimgcifenaa
namespace Ms
theorem ins_len : ∀ l : List Gm.In, (l.flatMap En.inBytes).length = 3 * l.length
  | [] => rfl
  | a :: l => by rw [List.flatMap_cons, List.length_append, ins_len l, En.inBytes_len, List.length_cons]; omega
theorem part_le {m : M} (h : Ok m) {c : Int} (hc : c ∈ has m.kind) : (part m c).length ≤ 1900 := by
  have bd := h.bd
  rcases Go.Proofs.Ytgmlbimgcifenaa.has_mem hc with rfl | rfl | rfl | rfl | rfl | rfl | rfl | rfl | rfl | rfl | rfl
  · exact Nat.le_trans (Nat.le_of_eq (Im.bytesOf_len _ _)) (by decide)
  · exact Nat.le_trans (Nat.le_of_eq (Im.bytesOf_len _ _)) (by decide)
  · exact Nat.le_trans (Nat.le_of_eq (Im.bytesOf_len _ _)) (by decide)
  · exact Nat.le_trans (Nat.le_of_eq (Im.bytesOf_len _ _)) (by decide)
  · exact Nat.le_trans (Nat.le_of_eq (Im.bytesOf_len _ _)) (by decide)
  · exact Nat.le_trans (Nat.le_of_eq (Im.bytesOf_len _ _)) (by decide)
  · exact Nat.le_trans (Nat.le_of_eq (Im.bytesOf_len _ _)) (by decide)
  · exact Nat.le_trans (Nat.le_of_eq (Im.bytesOf_len _ _)) (by decide)
  · have h1 := bd.ins hc
    show (Im.bytesOf 1 (m.ins.length : Int) ++ m.ins.flatMap En.inBytes).length ≤ 1900
    rw [List.length_append, Im.bytesOf_len, ins_len]; omega
  · have h1 := bd.log hc
    show (Im.bytesOf 1 (m.log.length : Int) ++ m.log.flatMap logBytes).length ≤ 1900
    have h2 := logs_le m.log (fun e he => by
      obtain ⟨k, hk, rfl⟩ := List.mem_iff_getElem.1 he
      exact (h.log k hk).1)
    rw [List.length_append, Im.bytesOf_len]; omega
  · have h1 := bd.data hc
    show (Im.bytesOf 1 (m.data.length : Int) ++ m.data).length ≤ 1900
    rw [List.length_append, Im.bytesOf_len]; omega
theorem parts_le {m : M} (h : Ok m) : ∀ l : List Int, (∀ c ∈ l, c ∈ has m.kind) → (l.flatMap (part m)).length ≤ 1900 * l.length
  | [], _ => Nat.le_refl _
  | a :: l, hl => by
    rw [List.flatMap_cons, List.length_append, List.length_cons]
    have h1 := part_le h (hl a (by simp))
    have h2 := parts_le h l (fun c hc => hl c (by simp [hc]))
    omega
theorem head_len (m : M) : (head m).length = 10 := by unfold head; simp only [List.length_append, Im.bytesOf_len]
theorem body_le {m : M} (h : Ok m) : (body m).length ≤ 9510 := by
  have h1 := parts_le h (has m.kind) (fun _ h => h)
  have h2 := has_len m.kind
  unfold body
  rw [List.length_append, head_len]; omega
end Ms
namespace Go.Proofs.Ytgmlbimgcifenaa
open Go.RowKit
set_option linter.unusedVariables false

set_option linter.unusedSimpArgs false
theorem LiesM.call {w w' : World} {q : Ms.S} (h : LiesM w w.heap.size q) (hb : Below w.heap.size w w') : LiesM w' w'.heap.size q :=
  ⟨(h.ins.below hb).wider hb.size, (h.log.below hb).wider hb.size, (h.data.below hb).wider hb.size, h.fi, h.fl, h.fd⟩
end Go.Proofs.Ytgmlbimgcifenaa
namespace Ms
open Go
def ownOf (l : List Int) : Int := (if l.contains 115 then 1 else 0) + (if l.contains 103 then 2 else 0) + (if l.contains 102 then 4 else 0) + (if l.contains 99 then 8 else 0) + (if l.contains 110 then 16 else 0) + (if l.contains 111 then 32 else 0) + (if l.contains 98 then 64 else 0) + (if l.contains 109 then 128 else 0) + (if l.contains 105 then 256 else 0) + (if l.contains 108 then 512 else 0) + (if l.contains 100 then 1024 else 0)
def own (k : Int) : Int := ownOf (has k)
theorem own_1 (k : Int) : bits .and .i64 (own k) 1 = if (has k).contains 115 then 1 else 0 := has_cases (Q := fun l => bits .and .i64 (ownOf l) 1 = if l.contains 115 then 1 else 0) k (by decide) (by decide) (by decide) (by decide) (by decide) (by decide) (by decide) (by decide) (by decide) (by decide)
theorem own_2 (k : Int) : bits .and .i64 (own k) 2 = if (has k).contains 103 then 2 else 0 := has_cases (Q := fun l => bits .and .i64 (ownOf l) 2 = if l.contains 103 then 2 else 0) k (by decide) (by decide) (by decide) (by decide) (by decide) (by decide) (by decide) (by decide) (by decide) (by decide)
theorem own_4 (k : Int) : bits .and .i64 (own k) 4 = if (has k).contains 102 then 4 else 0 := has_cases (Q := fun l => bits .and .i64 (ownOf l) 4 = if l.contains 102 then 4 else 0) k (by decide) (by decide) (by decide) (by decide) (by decide) (by decide) (by decide) (by decide) (by decide) (by decide)
theorem own_8 (k : Int) : bits .and .i64 (own k) 8 = if (has k).contains 99 then 8 else 0 := has_cases (Q := fun l => bits .and .i64 (ownOf l) 8 = if l.contains 99 then 8 else 0) k (by decide) (by decide) (by decide) (by decide) (by decide) (by decide) (by decide) (by decide) (by decide) (by decide)
theorem own_16 (k : Int) : bits .and .i64 (own k) 16 = if (has k).contains 110 then 16 else 0 := has_cases (Q := fun l => bits .and .i64 (ownOf l) 16 = if l.contains 110 then 16 else 0) k (by decide) (by decide) (by decide) (by decide) (by decide) (by decide) (by decide) (by decide) (by decide) (by decide)
theorem own_32 (k : Int) : bits .and .i64 (own k) 32 = if (has k).contains 111 then 32 else 0 := has_cases (Q := fun l => bits .and .i64 (ownOf l) 32 = if l.contains 111 then 32 else 0) k (by decide) (by decide) (by decide) (by decide) (by decide) (by decide) (by decide) (by decide) (by decide) (by decide)
theorem own_64 (k : Int) : bits .and .i64 (own k) 64 = if (has k).contains 98 then 64 else 0 := has_cases (Q := fun l => bits .and .i64 (ownOf l) 64 = if l.contains 98 then 64 else 0) k (by decide) (by decide) (by decide) (by decide) (by decide) (by decide) (by decide) (by decide) (by decide) (by decide)
theorem own_128 (k : Int) : bits .and .i64 (own k) 128 = if (has k).contains 109 then 128 else 0 := has_cases (Q := fun l => bits .and .i64 (ownOf l) 128 = if l.contains 109 then 128 else 0) k (by decide) (by decide) (by decide) (by decide) (by decide) (by decide) (by decide) (by decide) (by decide) (by decide)
theorem own_256 (k : Int) : bits .and .i64 (own k) 256 = if (has k).contains 105 then 256 else 0 := has_cases (Q := fun l => bits .and .i64 (ownOf l) 256 = if l.contains 105 then 256 else 0) k (by decide) (by decide) (by decide) (by decide) (by decide) (by decide) (by decide) (by decide) (by decide) (by decide)
theorem own_512 (k : Int) : bits .and .i64 (own k) 512 = if (has k).contains 108 then 512 else 0 := has_cases (Q := fun l => bits .and .i64 (ownOf l) 512 = if l.contains 108 then 512 else 0) k (by decide) (by decide) (by decide) (by decide) (by decide) (by decide) (by decide) (by decide) (by decide) (by decide)
theorem own_1024 (k : Int) : bits .and .i64 (own k) 1024 = if (has k).contains 100 then 1024 else 0 := has_cases (Q := fun l => bits .and .i64 (ownOf l) 1024 = if l.contains 100 then 1024 else 0) k (by decide) (by decide) (by decide) (by decide) (by decide) (by decide) (by decide) (by decide) (by decide) (by decide)

/-- A part's bytes, if the kind has it. -/
def sel (k c : Int) (l : List Int) : List Int := if (has k).contains c then l else []
theorem sel_no {k c : Int} {l : List Int} (h : (has k).contains c = false) : sel k c l = [] := by unfold sel; rw [h]; rfl
theorem sel_yes {k c : Int} {l : List Int} (h : (has k).contains c = true) : sel k c l = l := by unfold sel; rw [h]; rfl
theorem sel_le (k c : Int) (l : List Int) : (sel k c l).length ≤ l.length := by unfold sel; split <;> simp
theorem body_sel (m : M) : body m = head m ++ sel m.kind 115 (Im.bytesOf 1 m.slot) ++ sel m.kind 103 (Im.bytesOf 2 m.gen) ++ sel m.kind 102 (Im.bytesOf 4 m.frame) ++ sel m.kind 99 (Im.bytesOf 1 m.code) ++ sel m.kind 110 (Im.bytesOf 2 m.n) ++ sel m.kind 111 (Im.bytesOf 2 m.of) ++ sel m.kind 98 (Im.bytesOf 4 m.bits) ++ sel m.kind 109 (Im.bytesOf 8 m.sum) ++ sel m.kind 105 (Im.bytesOf 1 (m.ins.length : Int) ++ m.ins.flatMap En.inBytes) ++ sel m.kind 108 (Im.bytesOf 1 (m.log.length : Int) ++ m.log.flatMap Ms.logBytes) ++ sel m.kind 100 (Im.bytesOf 1 (m.data.length : Int) ++ m.data) := by
  unfold body sel
  generalize head m = h
  have p115 : part m 115 = Im.bytesOf 1 m.slot := rfl
  have p103 : part m 103 = Im.bytesOf 2 m.gen := rfl
  have p102 : part m 102 = Im.bytesOf 4 m.frame := rfl
  have p99 : part m 99 = Im.bytesOf 1 m.code := rfl
  have p110 : part m 110 = Im.bytesOf 2 m.n := rfl
  have p111 : part m 111 = Im.bytesOf 2 m.of := rfl
  have p98 : part m 98 = Im.bytesOf 4 m.bits := rfl
  have p109 : part m 109 = Im.bytesOf 8 m.sum := rfl
  have p105 : part m 105 = (Im.bytesOf 1 (m.ins.length : Int) ++ m.ins.flatMap En.inBytes) := rfl
  have p108 : part m 108 = (Im.bytesOf 1 (m.log.length : Int) ++ m.log.flatMap Ms.logBytes) := rfl
  have p100 : part m 100 = (Im.bytesOf 1 (m.data.length : Int) ++ m.data) := rfl
  refine has_cases (Q := fun l => h ++ l.flatMap (part m) = h ++ (if l.contains 115 then Im.bytesOf 1 m.slot else []) ++ (if l.contains 103 then Im.bytesOf 2 m.gen else []) ++ (if l.contains 102 then Im.bytesOf 4 m.frame else []) ++ (if l.contains 99 then Im.bytesOf 1 m.code else []) ++ (if l.contains 110 then Im.bytesOf 2 m.n else []) ++ (if l.contains 111 then Im.bytesOf 2 m.of else []) ++ (if l.contains 98 then Im.bytesOf 4 m.bits else []) ++ (if l.contains 109 then Im.bytesOf 8 m.sum else []) ++ (if l.contains 105 then (Im.bytesOf 1 (m.ins.length : Int) ++ m.ins.flatMap En.inBytes) else []) ++ (if l.contains 108 then (Im.bytesOf 1 (m.log.length : Int) ++ m.log.flatMap Ms.logBytes) else []) ++ (if l.contains 100 then (Im.bytesOf 1 (m.data.length : Int) ++ m.data) else [])) m.kind ?_ ?_ ?_ ?_ ?_ ?_ ?_ ?_ ?_ ?_ <;> simp [p115, p103, p102, p99, p110, p111, p98, p109, p105, p108, p100]
end Ms
namespace Go.Proofs.Ytgmlbimgcifenaa
open Go.RowKit Go.Shelf
set_option linter.unusedVariables false
set_option linter.unusedSimpArgs false

/-- A message being laid: what lies where. -/
structure Ws (b P tb tm tq : Nat) (m : Ms.M) (i l d v : Value) (X : World) : Prop where
  box : Box X P 29 (Ms.cells m i l d)
  by_ : Box X tb 66 #[v]
  msg : Box X tm 69 #[.pointer (some ⟨P, 0, none⟩)]
  own : Box X tq 72 #[.int .i64 (Ms.own m.kind)]
  size : b ≤ X.heap.size
section
variable {b P tb tm tq : Nat} {m : Ms.M} {i l d v : Value} {X X' : World}
theorem Ws.kb (h : Ws b P tb tm tq m i l d v X) (hK : Kb P X X') (hs : X.heap.size ≤ X'.heap.size) {i' l' d' : Value} (hB : Box X' P 29 (Ms.cells m i' l' d')) : Ws b P tb tm tq m i' l' d' v X' :=
  ⟨hB, hK _ _ _ h.by_ (Box.apart h.by_ h.box (by decide)) (by decide) (by decide), hK _ _ _ h.msg (Box.apart h.msg h.box (by decide)) (by decide) (by decide), hK _ _ _ h.own (Box.apart h.own h.box (by decide)) (by decide) (by decide), Nat.le_trans h.size hs⟩
theorem Ws.drew (h : Ws b P tb tm tq m i l d v X) : Ws b P tb tm tq m i l d v X.drew := ⟨h.box.drew, h.by_.drew, h.msg.drew, h.own.drew, h.size⟩
end
theorem ws_slot (m : Ms.M) (i l d : Value) (P tb tm tq : Nat) (bs : List Int) (b Bb Bp : Nat) (X : World) (hbB : b ≤ Bb) (hx : (Ms.has m.kind).contains 115 = true → 0 ≤ m.slot ∧ m.slot ≤ 9223372036854775807) (h : Wr b Bb Bp bs X) (hl : bs.length + 8 ≤ 65536) (hS : Ws b P tb tm tq m i l d (.func (.func 54) #[] #[.pointer (some ⟨Bp, 0, none⟩)]) X) :
    Calls Try.prog 66 #[.int .i64 1, .func (.func 67) #[] #[.pointer (some ⟨tb, 0, none⟩), .pointer (some ⟨tm, 0, none⟩)], .pointer (some ⟨tq, 0, none⟩)] X fun e w' => e = .returned (.tuple #[]) ∧ Wr b Bb Bp (bs ++ Ms.sel m.kind 115 (Im.bytesOf 1 m.slot)) w' ∧ Ws b P tb tm tq m i l d (.func (.func 54) #[] #[.pointer (some ⟨Bp, 0, none⟩)]) w' ∧ Below b X w' ∧ Kb P X w' ∧ VarK Bb P X w' := by
  refine pt2 _ (Ms.own m.kind) _ P tb tm tq X _ hS.by_ hS.msg hS.own (Ms.own_1 m.kind) (fun h0 => ?_) (fun h1 => ?_) (fun e w' hφ => .inl ⟨hφ.1, hφ.2.2.1.by_, hφ.2.2.1.msg⟩)
  · have hc : (Ms.has m.kind).contains 115 = false := by
      cases hc : (Ms.has m.kind).contains 115
      · rfl
      · rw [hc] at h0; exact absurd h0 (by decide)
    rw [Ms.sel_no hc, List.append_nil]
    exact ⟨rfl, h, hS, Below.refl _ _, Kb.refl _, VarK.refl _⟩
  · have hc : (Ms.has m.kind).contains 115 = true := by
      cases hc : (Ms.has m.kind).contains 115
      · rw [hc] at h1; exact absurd rfl h1
      · rfl
    have hr := hx hc
    rw [Ms.sel_yes hc]
    have hW := h.call (one_below' X)
    have hv := hW.isvar
    refine (layint_w 1 1 rfl m.slot P 5 29 (Ms.cells m i l d) bs b Bb Bp X.drew (by decide) (by omega) hbB hW (by omega) hS.box.drew rfl (by decide) (by decide) (by decide)).mono ?_
    rintro e w' ⟨rfl, h1, h2⟩
    have hK := ((Kb.refl (B := P) X).call (one_below' X)).wrote h2 hv
    have hB := ((one_below' X).mono hS.size).trans (h2.to hS.size)
    exact ⟨rfl, by rw [show IntKind.u64.wrap m.slot = m.slot from by rw [IntKind.wrap_u64]; omega] at h1; exact h1, hS.kb hK h2.size (hS.box.drew.wrote' h2 hv (by decide) (by decide)), hB, hK, ((VarK.refl (Bb := Bb) (P := P) X).call (one_below' X)).wrote h2⟩
theorem ws_gen (m : Ms.M) (i l d : Value) (P tb tm tq : Nat) (bs : List Int) (b Bb Bp : Nat) (X : World) (hbB : b ≤ Bb) (hx : (Ms.has m.kind).contains 103 = true → 0 ≤ m.gen ∧ m.gen ≤ 9223372036854775807) (h : Wr b Bb Bp bs X) (hl : bs.length + 8 ≤ 65536) (hS : Ws b P tb tm tq m i l d (.func (.func 54) #[] #[.pointer (some ⟨Bp, 0, none⟩)]) X) :
    Calls Try.prog 66 #[.int .i64 2, .func (.func 68) #[] #[.pointer (some ⟨tb, 0, none⟩), .pointer (some ⟨tm, 0, none⟩)], .pointer (some ⟨tq, 0, none⟩)] X fun e w' => e = .returned (.tuple #[]) ∧ Wr b Bb Bp (bs ++ Ms.sel m.kind 103 (Im.bytesOf 2 m.gen)) w' ∧ Ws b P tb tm tq m i l d (.func (.func 54) #[] #[.pointer (some ⟨Bp, 0, none⟩)]) w' ∧ Below b X w' ∧ Kb P X w' ∧ VarK Bb P X w' := by
  refine pt3 _ (Ms.own m.kind) _ P tb tm tq X _ hS.by_ hS.msg hS.own (Ms.own_2 m.kind) (fun h0 => ?_) (fun h1 => ?_) (fun e w' hφ => .inl ⟨hφ.1, hφ.2.2.1.by_, hφ.2.2.1.msg⟩)
  · have hc : (Ms.has m.kind).contains 103 = false := by
      cases hc : (Ms.has m.kind).contains 103
      · rfl
      · rw [hc] at h0; exact absurd h0 (by decide)
    rw [Ms.sel_no hc, List.append_nil]
    exact ⟨rfl, h, hS, Below.refl _ _, Kb.refl _, VarK.refl _⟩
  · have hc : (Ms.has m.kind).contains 103 = true := by
      cases hc : (Ms.has m.kind).contains 103
      · rw [hc] at h1; exact absurd rfl h1
      · rfl
    have hr := hx hc
    rw [Ms.sel_yes hc]
    have hW := h.call (one_below' X)
    have hv := hW.isvar
    refine (layint_w 2 2 rfl m.gen P 6 29 (Ms.cells m i l d) bs b Bb Bp X.drew (by decide) (by omega) hbB hW (by omega) hS.box.drew rfl (by decide) (by decide) (by decide)).mono ?_
    rintro e w' ⟨rfl, h1, h2⟩
    have hK := ((Kb.refl (B := P) X).call (one_below' X)).wrote h2 hv
    have hB := ((one_below' X).mono hS.size).trans (h2.to hS.size)
    exact ⟨rfl, by rw [show IntKind.u64.wrap m.gen = m.gen from by rw [IntKind.wrap_u64]; omega] at h1; exact h1, hS.kb hK h2.size (hS.box.drew.wrote' h2 hv (by decide) (by decide)), hB, hK, ((VarK.refl (Bb := Bb) (P := P) X).call (one_below' X)).wrote h2⟩
theorem ws_frame (m : Ms.M) (i l d : Value) (P tb tm tq : Nat) (bs : List Int) (b Bb Bp : Nat) (X : World) (hbB : b ≤ Bb) (hx : (Ms.has m.kind).contains 102 = true → 0 ≤ m.frame ∧ m.frame ≤ 9223372036854775807) (h : Wr b Bb Bp bs X) (hl : bs.length + 8 ≤ 65536) (hS : Ws b P tb tm tq m i l d (.func (.func 54) #[] #[.pointer (some ⟨Bp, 0, none⟩)]) X) :
    Calls Try.prog 66 #[.int .i64 4, .func (.func 69) #[] #[.pointer (some ⟨tb, 0, none⟩), .pointer (some ⟨tm, 0, none⟩)], .pointer (some ⟨tq, 0, none⟩)] X fun e w' => e = .returned (.tuple #[]) ∧ Wr b Bb Bp (bs ++ Ms.sel m.kind 102 (Im.bytesOf 4 m.frame)) w' ∧ Ws b P tb tm tq m i l d (.func (.func 54) #[] #[.pointer (some ⟨Bp, 0, none⟩)]) w' ∧ Below b X w' ∧ Kb P X w' ∧ VarK Bb P X w' := by
  refine pt4 _ (Ms.own m.kind) _ P tb tm tq X _ hS.by_ hS.msg hS.own (Ms.own_4 m.kind) (fun h0 => ?_) (fun h1 => ?_) (fun e w' hφ => .inl ⟨hφ.1, hφ.2.2.1.by_, hφ.2.2.1.msg⟩)
  · have hc : (Ms.has m.kind).contains 102 = false := by
      cases hc : (Ms.has m.kind).contains 102
      · rfl
      · rw [hc] at h0; exact absurd h0 (by decide)
    rw [Ms.sel_no hc, List.append_nil]
    exact ⟨rfl, h, hS, Below.refl _ _, Kb.refl _, VarK.refl _⟩
  · have hc : (Ms.has m.kind).contains 102 = true := by
      cases hc : (Ms.has m.kind).contains 102
      · rw [hc] at h1; exact absurd rfl h1
      · rfl
    have hr := hx hc
    rw [Ms.sel_yes hc]
    have hW := h.call (one_below' X)
    have hv := hW.isvar
    refine (layint_w 4 4 rfl m.frame P 7 29 (Ms.cells m i l d) bs b Bb Bp X.drew (by decide) (by omega) hbB hW (by omega) hS.box.drew rfl (by decide) (by decide) (by decide)).mono ?_
    rintro e w' ⟨rfl, h1, h2⟩
    have hK := ((Kb.refl (B := P) X).call (one_below' X)).wrote h2 hv
    have hB := ((one_below' X).mono hS.size).trans (h2.to hS.size)
    exact ⟨rfl, by rw [show IntKind.u64.wrap m.frame = m.frame from by rw [IntKind.wrap_u64]; omega] at h1; exact h1, hS.kb hK h2.size (hS.box.drew.wrote' h2 hv (by decide) (by decide)), hB, hK, ((VarK.refl (Bb := Bb) (P := P) X).call (one_below' X)).wrote h2⟩
theorem ws_code (m : Ms.M) (i l d : Value) (P tb tm tq : Nat) (bs : List Int) (b Bb Bp : Nat) (X : World) (hbB : b ≤ Bb) (hx : (Ms.has m.kind).contains 99 = true → 0 ≤ m.code ∧ m.code ≤ 9223372036854775807) (h : Wr b Bb Bp bs X) (hl : bs.length + 8 ≤ 65536) (hS : Ws b P tb tm tq m i l d (.func (.func 54) #[] #[.pointer (some ⟨Bp, 0, none⟩)]) X) :
    Calls Try.prog 66 #[.int .i64 8, .func (.func 70) #[] #[.pointer (some ⟨tb, 0, none⟩), .pointer (some ⟨tm, 0, none⟩)], .pointer (some ⟨tq, 0, none⟩)] X fun e w' => e = .returned (.tuple #[]) ∧ Wr b Bb Bp (bs ++ Ms.sel m.kind 99 (Im.bytesOf 1 m.code)) w' ∧ Ws b P tb tm tq m i l d (.func (.func 54) #[] #[.pointer (some ⟨Bp, 0, none⟩)]) w' ∧ Below b X w' ∧ Kb P X w' ∧ VarK Bb P X w' := by
  refine pt5 _ (Ms.own m.kind) _ P tb tm tq X _ hS.by_ hS.msg hS.own (Ms.own_8 m.kind) (fun h0 => ?_) (fun h1 => ?_) (fun e w' hφ => .inl ⟨hφ.1, hφ.2.2.1.by_, hφ.2.2.1.msg⟩)
  · have hc : (Ms.has m.kind).contains 99 = false := by
      cases hc : (Ms.has m.kind).contains 99
      · rfl
      · rw [hc] at h0; exact absurd h0 (by decide)
    rw [Ms.sel_no hc, List.append_nil]
    exact ⟨rfl, h, hS, Below.refl _ _, Kb.refl _, VarK.refl _⟩
  · have hc : (Ms.has m.kind).contains 99 = true := by
      cases hc : (Ms.has m.kind).contains 99
      · rw [hc] at h1; exact absurd rfl h1
      · rfl
    have hr := hx hc
    rw [Ms.sel_yes hc]
    have hW := h.call (one_below' X)
    have hv := hW.isvar
    refine (layint_w 1 1 rfl m.code P 8 29 (Ms.cells m i l d) bs b Bb Bp X.drew (by decide) (by omega) hbB hW (by omega) hS.box.drew rfl (by decide) (by decide) (by decide)).mono ?_
    rintro e w' ⟨rfl, h1, h2⟩
    have hK := ((Kb.refl (B := P) X).call (one_below' X)).wrote h2 hv
    have hB := ((one_below' X).mono hS.size).trans (h2.to hS.size)
    exact ⟨rfl, by rw [show IntKind.u64.wrap m.code = m.code from by rw [IntKind.wrap_u64]; omega] at h1; exact h1, hS.kb hK h2.size (hS.box.drew.wrote' h2 hv (by decide) (by decide)), hB, hK, ((VarK.refl (Bb := Bb) (P := P) X).call (one_below' X)).wrote h2⟩
theorem ws_n (m : Ms.M) (i l d : Value) (P tb tm tq : Nat) (bs : List Int) (b Bb Bp : Nat) (X : World) (hbB : b ≤ Bb) (hx : (Ms.has m.kind).contains 110 = true → 0 ≤ m.n ∧ m.n ≤ 9223372036854775807) (h : Wr b Bb Bp bs X) (hl : bs.length + 8 ≤ 65536) (hS : Ws b P tb tm tq m i l d (.func (.func 54) #[] #[.pointer (some ⟨Bp, 0, none⟩)]) X) :
    Calls Try.prog 66 #[.int .i64 16, .func (.func 71) #[] #[.pointer (some ⟨tb, 0, none⟩), .pointer (some ⟨tm, 0, none⟩)], .pointer (some ⟨tq, 0, none⟩)] X fun e w' => e = .returned (.tuple #[]) ∧ Wr b Bb Bp (bs ++ Ms.sel m.kind 110 (Im.bytesOf 2 m.n)) w' ∧ Ws b P tb tm tq m i l d (.func (.func 54) #[] #[.pointer (some ⟨Bp, 0, none⟩)]) w' ∧ Below b X w' ∧ Kb P X w' ∧ VarK Bb P X w' := by
  refine pt6 _ (Ms.own m.kind) _ P tb tm tq X _ hS.by_ hS.msg hS.own (Ms.own_16 m.kind) (fun h0 => ?_) (fun h1 => ?_) (fun e w' hφ => .inl ⟨hφ.1, hφ.2.2.1.by_, hφ.2.2.1.msg⟩)
  · have hc : (Ms.has m.kind).contains 110 = false := by
      cases hc : (Ms.has m.kind).contains 110
      · rfl
      · rw [hc] at h0; exact absurd h0 (by decide)
    rw [Ms.sel_no hc, List.append_nil]
    exact ⟨rfl, h, hS, Below.refl _ _, Kb.refl _, VarK.refl _⟩
  · have hc : (Ms.has m.kind).contains 110 = true := by
      cases hc : (Ms.has m.kind).contains 110
      · rw [hc] at h1; exact absurd rfl h1
      · rfl
    have hr := hx hc
    rw [Ms.sel_yes hc]
    have hW := h.call (one_below' X)
    have hv := hW.isvar
    refine (layint_w 2 2 rfl m.n P 9 29 (Ms.cells m i l d) bs b Bb Bp X.drew (by decide) (by omega) hbB hW (by omega) hS.box.drew rfl (by decide) (by decide) (by decide)).mono ?_
    rintro e w' ⟨rfl, h1, h2⟩
    have hK := ((Kb.refl (B := P) X).call (one_below' X)).wrote h2 hv
    have hB := ((one_below' X).mono hS.size).trans (h2.to hS.size)
    exact ⟨rfl, by rw [show IntKind.u64.wrap m.n = m.n from by rw [IntKind.wrap_u64]; omega] at h1; exact h1, hS.kb hK h2.size (hS.box.drew.wrote' h2 hv (by decide) (by decide)), hB, hK, ((VarK.refl (Bb := Bb) (P := P) X).call (one_below' X)).wrote h2⟩
theorem ws_of (m : Ms.M) (i l d : Value) (P tb tm tq : Nat) (bs : List Int) (b Bb Bp : Nat) (X : World) (hbB : b ≤ Bb) (hx : (Ms.has m.kind).contains 111 = true → 0 ≤ m.of ∧ m.of ≤ 9223372036854775807) (h : Wr b Bb Bp bs X) (hl : bs.length + 8 ≤ 65536) (hS : Ws b P tb tm tq m i l d (.func (.func 54) #[] #[.pointer (some ⟨Bp, 0, none⟩)]) X) :
    Calls Try.prog 66 #[.int .i64 32, .func (.func 72) #[] #[.pointer (some ⟨tb, 0, none⟩), .pointer (some ⟨tm, 0, none⟩)], .pointer (some ⟨tq, 0, none⟩)] X fun e w' => e = .returned (.tuple #[]) ∧ Wr b Bb Bp (bs ++ Ms.sel m.kind 111 (Im.bytesOf 2 m.of)) w' ∧ Ws b P tb tm tq m i l d (.func (.func 54) #[] #[.pointer (some ⟨Bp, 0, none⟩)]) w' ∧ Below b X w' ∧ Kb P X w' ∧ VarK Bb P X w' := by
  refine pt7 _ (Ms.own m.kind) _ P tb tm tq X _ hS.by_ hS.msg hS.own (Ms.own_32 m.kind) (fun h0 => ?_) (fun h1 => ?_) (fun e w' hφ => .inl ⟨hφ.1, hφ.2.2.1.by_, hφ.2.2.1.msg⟩)
  · have hc : (Ms.has m.kind).contains 111 = false := by
      cases hc : (Ms.has m.kind).contains 111
      · rfl
      · rw [hc] at h0; exact absurd h0 (by decide)
    rw [Ms.sel_no hc, List.append_nil]
    exact ⟨rfl, h, hS, Below.refl _ _, Kb.refl _, VarK.refl _⟩
  · have hc : (Ms.has m.kind).contains 111 = true := by
      cases hc : (Ms.has m.kind).contains 111
      · rw [hc] at h1; exact absurd rfl h1
      · rfl
    have hr := hx hc
    rw [Ms.sel_yes hc]
    have hW := h.call (one_below' X)
    have hv := hW.isvar
    refine (layint_w 2 2 rfl m.of P 10 29 (Ms.cells m i l d) bs b Bb Bp X.drew (by decide) (by omega) hbB hW (by omega) hS.box.drew rfl (by decide) (by decide) (by decide)).mono ?_
    rintro e w' ⟨rfl, h1, h2⟩
    have hK := ((Kb.refl (B := P) X).call (one_below' X)).wrote h2 hv
    have hB := ((one_below' X).mono hS.size).trans (h2.to hS.size)
    exact ⟨rfl, by rw [show IntKind.u64.wrap m.of = m.of from by rw [IntKind.wrap_u64]; omega] at h1; exact h1, hS.kb hK h2.size (hS.box.drew.wrote' h2 hv (by decide) (by decide)), hB, hK, ((VarK.refl (Bb := Bb) (P := P) X).call (one_below' X)).wrote h2⟩
theorem ws_bits (m : Ms.M) (i l d : Value) (P tb tm tq : Nat) (bs : List Int) (b Bb Bp : Nat) (X : World) (hbB : b ≤ Bb) (hx : (Ms.has m.kind).contains 98 = true → 0 ≤ m.bits ∧ m.bits ≤ 4294967295) (h : Wr b Bb Bp bs X) (hl : bs.length + 8 ≤ 65536) (hS : Ws b P tb tm tq m i l d (.func (.func 54) #[] #[.pointer (some ⟨Bp, 0, none⟩)]) X) :
    Calls Try.prog 66 #[.int .i64 64, .func (.func 73) #[] #[.pointer (some ⟨tb, 0, none⟩), .pointer (some ⟨tm, 0, none⟩)], .pointer (some ⟨tq, 0, none⟩)] X fun e w' => e = .returned (.tuple #[]) ∧ Wr b Bb Bp (bs ++ Ms.sel m.kind 98 (Im.bytesOf 4 m.bits)) w' ∧ Ws b P tb tm tq m i l d (.func (.func 54) #[] #[.pointer (some ⟨Bp, 0, none⟩)]) w' ∧ Below b X w' ∧ Kb P X w' ∧ VarK Bb P X w' := by
  refine pt8 _ (Ms.own m.kind) _ P tb tm tq X _ hS.by_ hS.msg hS.own (Ms.own_64 m.kind) (fun h0 => ?_) (fun h1 => ?_) (fun e w' hφ => .inl ⟨hφ.1, hφ.2.2.1.by_, hφ.2.2.1.msg⟩)
  · have hc : (Ms.has m.kind).contains 98 = false := by
      cases hc : (Ms.has m.kind).contains 98
      · rfl
      · rw [hc] at h0; exact absurd h0 (by decide)
    rw [Ms.sel_no hc, List.append_nil]
    exact ⟨rfl, h, hS, Below.refl _ _, Kb.refl _, VarK.refl _⟩
  · have hc : (Ms.has m.kind).contains 98 = true := by
      cases hc : (Ms.has m.kind).contains 98
      · rw [hc] at h1; exact absurd rfl h1
      · rfl
    have hr := hx hc
    rw [Ms.sel_yes hc]
    have hW := h.call (one_below' X)
    have hv := hW.isvar
    refine (layu32_w 4 4 rfl m.bits P 11 29 (Ms.cells m i l d) bs b Bb Bp X.drew (by decide) (by omega) hbB hW (by omega) hS.box.drew rfl (by decide) (by decide) (by decide)).mono ?_
    rintro e w' ⟨rfl, h1, h2⟩
    have hK := ((Kb.refl (B := P) X).call (one_below' X)).wrote h2 hv
    have hB := ((one_below' X).mono hS.size).trans (h2.to hS.size)
    exact ⟨rfl, by rw [show IntKind.u64.wrap m.bits = m.bits from by rw [IntKind.wrap_u64]; omega] at h1; exact h1, hS.kb hK h2.size (hS.box.drew.wrote' h2 hv (by decide) (by decide)), hB, hK, ((VarK.refl (Bb := Bb) (P := P) X).call (one_below' X)).wrote h2⟩
theorem ws_sum (m : Ms.M) (i l d : Value) (P tb tm tq : Nat) (bs : List Int) (b Bb Bp : Nat) (X : World) (hbB : b ≤ Bb) (hx : (Ms.has m.kind).contains 109 = true → 0 ≤ m.sum ∧ m.sum ≤ 18446744073709551615) (h : Wr b Bb Bp bs X) (hl : bs.length + 8 ≤ 65536) (hS : Ws b P tb tm tq m i l d (.func (.func 54) #[] #[.pointer (some ⟨Bp, 0, none⟩)]) X) :
    Calls Try.prog 66 #[.int .i64 128, .func (.func 74) #[] #[.pointer (some ⟨tb, 0, none⟩), .pointer (some ⟨tm, 0, none⟩)], .pointer (some ⟨tq, 0, none⟩)] X fun e w' => e = .returned (.tuple #[]) ∧ Wr b Bb Bp (bs ++ Ms.sel m.kind 109 (Im.bytesOf 8 m.sum)) w' ∧ Ws b P tb tm tq m i l d (.func (.func 54) #[] #[.pointer (some ⟨Bp, 0, none⟩)]) w' ∧ Below b X w' ∧ Kb P X w' ∧ VarK Bb P X w' := by
  refine pt9 _ (Ms.own m.kind) _ P tb tm tq X _ hS.by_ hS.msg hS.own (Ms.own_128 m.kind) (fun h0 => ?_) (fun h1 => ?_) (fun e w' hφ => .inl ⟨hφ.1, hφ.2.2.1.by_, hφ.2.2.1.msg⟩)
  · have hc : (Ms.has m.kind).contains 109 = false := by
      cases hc : (Ms.has m.kind).contains 109
      · rfl
      · rw [hc] at h0; exact absurd h0 (by decide)
    rw [Ms.sel_no hc, List.append_nil]
    exact ⟨rfl, h, hS, Below.refl _ _, Kb.refl _, VarK.refl _⟩
  · have hc : (Ms.has m.kind).contains 109 = true := by
      cases hc : (Ms.has m.kind).contains 109
      · rw [hc] at h1; exact absurd rfl h1
      · rfl
    have hr := hx hc
    rw [Ms.sel_yes hc]
    have hW := h.call (one_below' X)
    have hv := hW.isvar
    refine (layu64_w 8 8 rfl m.sum P 12 29 (Ms.cells m i l d) bs b Bb Bp X.drew (by decide) (by omega) hbB hW (by omega) hS.box.drew rfl (by decide) (by decide) (by decide)).mono ?_
    rintro e w' ⟨rfl, h1, h2⟩
    have hK := ((Kb.refl (B := P) X).call (one_below' X)).wrote h2 hv
    have hB := ((one_below' X).mono hS.size).trans (h2.to hS.size)
    exact ⟨rfl, h1, hS.kb hK h2.size (hS.box.drew.wrote' h2 hv (by decide) (by decide)), hB, hK, ((VarK.refl (Bb := Bb) (P := P) X).call (one_below' X)).wrote h2⟩
theorem in_one (l : List Gm.In) : ∀ u ∈ Gm.inCells l, u.oneCell' = true := by
  intro u hu
  obtain ⟨p, _, hp⟩ := List.mem_flatMap.1 hu
  simp [Gm.In.cells] at hp
  rcases hp with rfl | rfl | rfl <;> rfl
theorem ws_ins (m : Ms.M) (i l d : Value) (P tb tm tq : Nat) (bs : List Int) (b Bb Bp : Nat) (X : World) (hbB : b ≤ Bb) (hbP : b ≤ P) (hx : (Ms.has m.kind).contains 105 = true → m.ins.length ≤ 16) (hT : ∀ p ∈ m.ins, Gm.tyIn p) (A : Option Addr) (c : Nat) (hi : i = .slice A m.ins.length c) (hL : Lies X b 3 A m.ins.length (Gm.inCells m.ins)) (h : Wr b Bb Bp bs X) (hl : bs.length + 2000 ≤ 65536) (hS : Ws b P tb tm tq m i l d (.func (.func 54) #[] #[.pointer (some ⟨Bp, 0, none⟩)]) X) :
    Calls Try.prog 66 #[.int .i64 256, .func (.func 76) #[] #[.pointer (some ⟨tb, 0, none⟩), .pointer (some ⟨tm, 0, none⟩)], .pointer (some ⟨tq, 0, none⟩)] X fun e w' => e = .returned (.tuple #[]) ∧ Wr b Bb Bp (bs ++ Ms.sel m.kind 105 (Im.bytesOf 1 (m.ins.length : Int) ++ m.ins.flatMap En.inBytes)) w' ∧ (∃ i', Ws b P tb tm tq m i' l d (.func (.func 54) #[] #[.pointer (some ⟨Bp, 0, none⟩)]) w') ∧ Below b X w' ∧ Kb P X w' ∧ VarK Bb P X w' := by
  refine pt10 _ (Ms.own m.kind) _ P tb tm tq X _ hS.by_ hS.msg hS.own (Ms.own_256 m.kind) (fun h0 => ?_) (fun h1 => ?_) (fun e w' hφ => .inl (by obtain ⟨h1, _, ⟨_, h2⟩, _⟩ := hφ; exact ⟨h1, h2.by_, h2.msg⟩))
  · have hc : (Ms.has m.kind).contains 105 = false := by
      cases hc : (Ms.has m.kind).contains 105
      · rfl
      · rw [hc] at h0; exact absurd h0 (by decide)
    rw [Ms.sel_no hc, List.append_nil]
    exact ⟨rfl, h, ⟨_, hS⟩, Below.refl _ _, Kb.refl _, VarK.refl _⟩
  · have hc : (Ms.has m.kind).contains 105 = true := by
      cases hc : (Ms.has m.kind).contains 105
      · rw [hc] at h1; exact absurd rfl h1
      · rfl
    have hr := hx hc
    rw [Ms.sel_yes hc]
    have hW := h.call (one_below' X)
    refine (listzin_w (Gm.inCells m.ins) (m.ins.map En.inBytes) m.ins.length A c 1 1 rfl P 13 29 (Ms.cells m i l d) bs b Bb Bp X.drew (by rw [List.length_map]) (by omega) (by decide) hbB hbP hS.size hW (by have hfl : (m.ins.map En.inBytes).flatten.length = 3 * m.ins.length := Ms.ins_len m.ins; omega) hS.box.drew (by rw [hi]; rfl) (hL.below ((one_below' X).mono hS.size)) (in_one m.ins) (by decide) (by decide) (by decide) (eachin_w m.ins hT b Bb Bp X.drew hbB hS.size)).mono ?_
    rintro e w' ⟨rfl, h1, h2, h3, h3', S, h4⟩
    have hK := ((Kb.refl (B := P) X).call (one_below' X)).trans h3
    have hB := ((one_below' X).mono hS.size).trans h2
    exact ⟨rfl, h1, ⟨_, hS.kb hK h2.size h4⟩, hB, hK, ((VarK.refl (Bb := Bb) (P := P) X).call (one_below' X)).trans h3'⟩
theorem ws_log (m : Ms.M) (i l d : Value) (P tb tm tq : Nat) (bs : List Int) (b Bb Bp : Nat) (X : World) (hbB : b ≤ Bb) (hbP : b ≤ P) (hx : (Ms.has m.kind).contains 108 = true → m.log.length ≤ 16) (hT : ∀ q ∈ m.log, En.Ok q.e ∧ En.Ty q.e) (A : Option Addr) (c : Nat) (hi : l = .slice A m.log.length c) (hL : LiesS X b A m.log.length m.log) (h : Wr b Bb Bp bs X) (hl : bs.length + 2000 ≤ 65536) (hS : Ws b P tb tm tq m i l d (.func (.func 54) #[] #[.pointer (some ⟨Bp, 0, none⟩)]) X) :
    Calls Try.prog 66 #[.int .i64 512, .func (.func 79) #[] #[.pointer (some ⟨tb, 0, none⟩), .pointer (some ⟨tm, 0, none⟩)], .pointer (some ⟨tq, 0, none⟩)] X fun e w' => e = .returned (.tuple #[]) ∧ Wr b Bb Bp (bs ++ Ms.sel m.kind 108 (Im.bytesOf 1 (m.log.length : Int) ++ m.log.flatMap Ms.logBytes)) w' ∧ (∃ l', Ws b P tb tm tq m i l' d (.func (.func 54) #[] #[.pointer (some ⟨Bp, 0, none⟩)]) w') ∧ Below b X w' ∧ Kb P X w' ∧ VarK Bb P X w' := by
  refine pt11 _ (Ms.own m.kind) _ P tb tm tq X _ hS.by_ hS.msg hS.own (Ms.own_512 m.kind) (fun h0 => ?_) (fun h1 => ?_) (fun e w' hφ => .inl (by obtain ⟨h1, _, ⟨_, h2⟩, _⟩ := hφ; exact ⟨h1, h2.by_, h2.msg⟩))
  · have hc : (Ms.has m.kind).contains 108 = false := by
      cases hc : (Ms.has m.kind).contains 108
      · rfl
      · rw [hc] at h0; exact absurd h0 (by decide)
    rw [Ms.sel_no hc, List.append_nil]
    exact ⟨rfl, h, ⟨_, hS⟩, Below.refl _ _, Kb.refl _, VarK.refl _⟩
  · have hc : (Ms.has m.kind).contains 108 = true := by
      cases hc : (Ms.has m.kind).contains 108
      · rw [hc] at h1; exact absurd rfl h1
      · rfl
    have hr := hx hc
    rw [Ms.sel_yes hc]
    have hW := h.call (one_below' X)
    refine (listzen_w (En.sCells m.log) (m.log.map Ms.logBytes) m.log.length A c 1 1 rfl P 14 29 (Ms.cells m i l d) bs b Bb Bp X.drew (by rw [List.length_map]) (by omega) (by decide) hbB hbP hS.size hW (by have hfl : (m.log.map Ms.logBytes).flatten.length ≤ 112 * m.log.length := Ms.logs_le m.log (fun e he => (hT e he).1); omega) hS.box.drew (by rw [hi]; rfl) (hL.row.below ((one_below' X).mono hS.size)) (En.sCells_one m.log) (by decide) (by decide) (by decide) (eachen_w m.log hT b Bb Bp X.drew (fun q hq => (hL.each q hq).below ((one_below' X).mono hS.size)) hbB hS.size)).mono ?_
    rintro e w' ⟨rfl, h1, h2, h3, h3', S, h4⟩
    have hK := ((Kb.refl (B := P) X).call (one_below' X)).trans h3
    have hB := ((one_below' X).mono hS.size).trans h2
    exact ⟨rfl, h1, ⟨_, hS.kb hK h2.size h4⟩, hB, hK, ((VarK.refl (Bb := Bb) (P := P) X).call (one_below' X)).trans h3'⟩
theorem ws_data (m : Ms.M) (i l d : Value) (P tb tm tq : Nat) (bs : List Int) (b Bb Bp : Nat) (X : World) (hbB : b ≤ Bb) (hbP : b ≤ P) (hx : (Ms.has m.kind).contains 100 = true → m.data.length ≤ 64) (hT : Im.IsBytes m.data) (A : Option Addr) (c : Nat) (hi : d = .slice A m.data.length c) (hL : Lies X b 1 A m.data.length (Im.u8s m.data)) (h : Wr b Bb Bp bs X) (hl : bs.length + 2000 ≤ 65536) (hS : Ws b P tb tm tq m i l d (.func (.func 54) #[] #[.pointer (some ⟨Bp, 0, none⟩)]) X) :
    Calls Try.prog 66 #[.int .i64 1024, .func (.func 82) #[] #[.pointer (some ⟨tb, 0, none⟩), .pointer (some ⟨tm, 0, none⟩)], .pointer (some ⟨tq, 0, none⟩)] X fun e w' => e = .returned (.tuple #[]) ∧ Wr b Bb Bp (bs ++ Ms.sel m.kind 100 (Im.bytesOf 1 (m.data.length : Int) ++ m.data)) w' ∧ (∃ d', Ws b P tb tm tq m i l d' (.func (.func 54) #[] #[.pointer (some ⟨Bp, 0, none⟩)]) w') ∧ Below b X w' ∧ Kb P X w' ∧ VarK Bb P X w' := by
  refine pt12 _ (Ms.own m.kind) _ P tb tm tq X _ hS.by_ hS.msg hS.own (Ms.own_1024 m.kind) (fun h0 => ?_) (fun h1 => ?_) (fun e w' hφ => .inl (by obtain ⟨h1, _, ⟨_, h2⟩, _⟩ := hφ; exact ⟨h1, h2.by_, h2.msg⟩))
  · have hc : (Ms.has m.kind).contains 100 = false := by
      cases hc : (Ms.has m.kind).contains 100
      · rfl
      · rw [hc] at h0; exact absurd h0 (by decide)
    rw [Ms.sel_no hc, List.append_nil]
    exact ⟨rfl, h, ⟨_, hS⟩, Below.refl _ _, Kb.refl _, VarK.refl _⟩
  · have hc : (Ms.has m.kind).contains 100 = true := by
      cases hc : (Ms.has m.kind).contains 100
      · rw [hc] at h1; exact absurd rfl h1
      · rfl
    have hr := hx hc
    rw [Ms.sel_yes hc]
    have hW := h.call (one_below' X)
    refine (listby_w m.data m.data.length A c 1 1 rfl P 15 29 (Ms.cells m i l d) bs b Bb Bp X.drew rfl (by omega) (by decide) hbB hbP hS.size hW (by omega) hS.box.drew (by obtain ⟨A, n, c, hv⟩ := hW.isvar; exact Box.apart hS.box.drew hv (by decide)) hT (by rw [hi]; rfl) (fun Z hZ _ => ((hL.below ((one_below' X).mono hS.size)).below hZ).wider (Nat.le_trans hS.size hZ.size)) (by decide) (by decide)).mono ?_
    rintro e w' ⟨rfl, h1, h2, h3, h3', S, _, h4, _⟩
    have hK := ((Kb.refl (B := P) X).call (one_below' X)).trans h3
    have hB := ((one_below' X).mono hS.size).trans h2
    exact ⟨rfl, h1, ⟨_, hS.kb hK h2.size h4⟩, hB, hK, ((VarK.refl (Bb := Bb) (P := P) X).call (one_below' X)).trans h3'⟩

set_option maxRecDepth 100000 in
set_option maxHeartbeats 4000000 in
theorem layparts_w (q : Ms.S) (P : Nat) (bs : List Int) (b Bb Bp : Nat) (w : World) (hT : Ms.Ty q.m) (hok : Ms.Ok q.m) (hbB : b ≤ Bb) (hbP : b ≤ P) (hbw : b ≤ w.heap.size) (h : Wr b Bb Bp bs w) (hl : bs.length ≤ 1000) (hP : Box w P 29 q.cells) (hL : LiesM w b q) :
    Calls Try.prog 53 #[.func (.func 54) #[] #[.pointer (some ⟨Bp, 0, none⟩)], .int .i64 (Ms.own q.m.kind), .pointer (some ⟨P, 0, none⟩)] w fun e w' => e = .returned (.tuple #[]) ∧ Wr b Bb Bp (bs ++ Ms.sel q.m.kind 115 (Im.bytesOf 1 q.m.slot) ++ Ms.sel q.m.kind 103 (Im.bytesOf 2 q.m.gen) ++ Ms.sel q.m.kind 102 (Im.bytesOf 4 q.m.frame) ++ Ms.sel q.m.kind 99 (Im.bytesOf 1 q.m.code) ++ Ms.sel q.m.kind 110 (Im.bytesOf 2 q.m.n) ++ Ms.sel q.m.kind 111 (Im.bytesOf 2 q.m.of) ++ Ms.sel q.m.kind 98 (Im.bytesOf 4 q.m.bits) ++ Ms.sel q.m.kind 109 (Im.bytesOf 8 q.m.sum) ++ Ms.sel q.m.kind 105 (Im.bytesOf 1 (q.m.ins.length : Int) ++ q.m.ins.flatMap En.inBytes) ++ Ms.sel q.m.kind 108 (Im.bytesOf 1 (q.m.log.length : Int) ++ q.m.log.flatMap Ms.logBytes) ++ Ms.sel q.m.kind 100 (Im.bytesOf 1 (q.m.data.length : Int) ++ q.m.data)) w' ∧ Below b w w' ∧ Kb P w w' ∧ VarK Bb P w w' := by
  have bd := hok.bd
  have hmf : ∀ (fn : Fn) (first cap : Array Value) (w : World), (Instr.makeFunc fn first cap).run Try.prog w = .ok (.func fn first cap) w := fun _ _ _ _ => rfl
  obtain ⟨W0, hW0⟩ : ∃ W0, W0 = ((w.alloc (.cells #[.func (.func 54) #[] #[.pointer (some ⟨Bp, 0, none⟩)]] 66)).alloc (.cells #[.int .i64 (Ms.own q.m.kind)] 72)).alloc (.cells #[.pointer (some ⟨P, 0, none⟩)] 69) := ⟨_, rfl⟩
  have BB : Below w.heap.size w W0 := by rw [hW0]; exact (((Below.refl w.heap.size w).alloc (Nat.le_refl _) _).alloc (by simp) _).alloc (by simp <;> omega) _
  have S0 := Lib.hid (show Ws b P w.heap.size (w.heap.size + 1 + 1) (w.heap.size + 1) q.m q.si q.sl q.sd (.func (.func 54) #[] #[.pointer (some ⟨Bp, 0, none⟩)]) W0 from ⟨hP.below BB hP.lt, by rw [hW0]; exact ((Box.made w _ _).alloc _).alloc _, by rw [hW0]; exact Box.made_at _ _ _ (by simp), by rw [hW0]; exact (Box.made_at (n := w.heap.size + 1) (w.alloc _) _ _ (by simp)).alloc _, Nat.le_trans hbw BB.size⟩)
  have I0 := Lib.hid (h.call BB)
  have D0 := Lib.hid (BB.mono hbw)
  have K0 := Lib.hid ((Kb.refl (B := P) w).call BB)
  have V0 := Lib.hid ((VarK.refl (Bb := Bb) (P := P) w).call BB)
  have LI := Lib.hid hL.ins
  have LL := Lib.hid hL.log
  have LD := Lib.hid hL.data
  have hsi : (q.m.ins.flatMap En.inBytes).length = 3 * q.m.ins.length := Ms.ins_len _
  have hsl := Ms.logs_le q.m.log (fun e he => by obtain ⟨k, hk, rfl⟩ := List.mem_iff_getElem.1 he; exact (hok.log k hk).1)
  have c1 := fun X (hX : Wr b Bb Bp (bs) X) hS => Lib.hid (ws_slot q.m q.si q.sl q.sd P w.heap.size (w.heap.size + 1 + 1) (w.heap.size + 1) _ b Bb Bp X hbB (fun _ => by have := bd.slot; omega) hX (by (try simp only [List.length_append]);  (try simp only [Im.bytesOf_len] at *); omega) hS)
  have c2 := fun X (hX : Wr b Bb Bp (bs ++ Ms.sel q.m.kind 115 (Im.bytesOf 1 q.m.slot)) X) hS => Lib.hid (ws_gen q.m q.si q.sl q.sd P w.heap.size (w.heap.size + 1 + 1) (w.heap.size + 1) _ b Bb Bp X hbB (fun hc => by have := bd.gen (List.contains_iff_mem.1 hc); omega) hX (by (try simp only [List.length_append]); have e0 := Ms.sel_le q.m.kind 115 (Im.bytesOf 1 q.m.slot); (try simp only [Im.bytesOf_len] at *); omega) hS)
  have c3 := fun X (hX : Wr b Bb Bp (bs ++ Ms.sel q.m.kind 115 (Im.bytesOf 1 q.m.slot) ++ Ms.sel q.m.kind 103 (Im.bytesOf 2 q.m.gen)) X) hS => Lib.hid (ws_frame q.m q.si q.sl q.sd P w.heap.size (w.heap.size + 1 + 1) (w.heap.size + 1) _ b Bb Bp X hbB (fun _ => by have := bd.frame; omega) hX (by (try simp only [List.length_append]); have e0 := Ms.sel_le q.m.kind 115 (Im.bytesOf 1 q.m.slot); have e1 := Ms.sel_le q.m.kind 103 (Im.bytesOf 2 q.m.gen); (try simp only [Im.bytesOf_len] at *); omega) hS)
  have c4 := fun X (hX : Wr b Bb Bp (bs ++ Ms.sel q.m.kind 115 (Im.bytesOf 1 q.m.slot) ++ Ms.sel q.m.kind 103 (Im.bytesOf 2 q.m.gen) ++ Ms.sel q.m.kind 102 (Im.bytesOf 4 q.m.frame)) X) hS => Lib.hid (ws_code q.m q.si q.sl q.sd P w.heap.size (w.heap.size + 1 + 1) (w.heap.size + 1) _ b Bb Bp X hbB (fun _ => by have := bd.code; omega) hX (by (try simp only [List.length_append]); have e0 := Ms.sel_le q.m.kind 115 (Im.bytesOf 1 q.m.slot); have e1 := Ms.sel_le q.m.kind 103 (Im.bytesOf 2 q.m.gen); have e2 := Ms.sel_le q.m.kind 102 (Im.bytesOf 4 q.m.frame); (try simp only [Im.bytesOf_len] at *); omega) hS)
  have c5 := fun X (hX : Wr b Bb Bp (bs ++ Ms.sel q.m.kind 115 (Im.bytesOf 1 q.m.slot) ++ Ms.sel q.m.kind 103 (Im.bytesOf 2 q.m.gen) ++ Ms.sel q.m.kind 102 (Im.bytesOf 4 q.m.frame) ++ Ms.sel q.m.kind 99 (Im.bytesOf 1 q.m.code)) X) hS => Lib.hid (ws_n q.m q.si q.sl q.sd P w.heap.size (w.heap.size + 1 + 1) (w.heap.size + 1) _ b Bb Bp X hbB (fun _ => by have := bd.n; omega) hX (by (try simp only [List.length_append]); have e0 := Ms.sel_le q.m.kind 115 (Im.bytesOf 1 q.m.slot); have e1 := Ms.sel_le q.m.kind 103 (Im.bytesOf 2 q.m.gen); have e2 := Ms.sel_le q.m.kind 102 (Im.bytesOf 4 q.m.frame); have e3 := Ms.sel_le q.m.kind 99 (Im.bytesOf 1 q.m.code); (try simp only [Im.bytesOf_len] at *); omega) hS)
  have c6 := fun X (hX : Wr b Bb Bp (bs ++ Ms.sel q.m.kind 115 (Im.bytesOf 1 q.m.slot) ++ Ms.sel q.m.kind 103 (Im.bytesOf 2 q.m.gen) ++ Ms.sel q.m.kind 102 (Im.bytesOf 4 q.m.frame) ++ Ms.sel q.m.kind 99 (Im.bytesOf 1 q.m.code) ++ Ms.sel q.m.kind 110 (Im.bytesOf 2 q.m.n)) X) hS => Lib.hid (ws_of q.m q.si q.sl q.sd P w.heap.size (w.heap.size + 1 + 1) (w.heap.size + 1) _ b Bb Bp X hbB (fun hc => by have := bd.of (List.contains_iff_mem.1 hc); omega) hX (by (try simp only [List.length_append]); have e0 := Ms.sel_le q.m.kind 115 (Im.bytesOf 1 q.m.slot); have e1 := Ms.sel_le q.m.kind 103 (Im.bytesOf 2 q.m.gen); have e2 := Ms.sel_le q.m.kind 102 (Im.bytesOf 4 q.m.frame); have e3 := Ms.sel_le q.m.kind 99 (Im.bytesOf 1 q.m.code); have e4 := Ms.sel_le q.m.kind 110 (Im.bytesOf 2 q.m.n); (try simp only [Im.bytesOf_len] at *); omega) hS)
  have c7 := fun X (hX : Wr b Bb Bp (bs ++ Ms.sel q.m.kind 115 (Im.bytesOf 1 q.m.slot) ++ Ms.sel q.m.kind 103 (Im.bytesOf 2 q.m.gen) ++ Ms.sel q.m.kind 102 (Im.bytesOf 4 q.m.frame) ++ Ms.sel q.m.kind 99 (Im.bytesOf 1 q.m.code) ++ Ms.sel q.m.kind 110 (Im.bytesOf 2 q.m.n) ++ Ms.sel q.m.kind 111 (Im.bytesOf 2 q.m.of)) X) hS => Lib.hid (ws_bits q.m q.si q.sl q.sd P w.heap.size (w.heap.size + 1 + 1) (w.heap.size + 1) _ b Bb Bp X hbB (fun _ => hT.bits) hX (by (try simp only [List.length_append]); have e0 := Ms.sel_le q.m.kind 115 (Im.bytesOf 1 q.m.slot); have e1 := Ms.sel_le q.m.kind 103 (Im.bytesOf 2 q.m.gen); have e2 := Ms.sel_le q.m.kind 102 (Im.bytesOf 4 q.m.frame); have e3 := Ms.sel_le q.m.kind 99 (Im.bytesOf 1 q.m.code); have e4 := Ms.sel_le q.m.kind 110 (Im.bytesOf 2 q.m.n); have e5 := Ms.sel_le q.m.kind 111 (Im.bytesOf 2 q.m.of); (try simp only [Im.bytesOf_len] at *); omega) hS)
  have c8 := fun X (hX : Wr b Bb Bp (bs ++ Ms.sel q.m.kind 115 (Im.bytesOf 1 q.m.slot) ++ Ms.sel q.m.kind 103 (Im.bytesOf 2 q.m.gen) ++ Ms.sel q.m.kind 102 (Im.bytesOf 4 q.m.frame) ++ Ms.sel q.m.kind 99 (Im.bytesOf 1 q.m.code) ++ Ms.sel q.m.kind 110 (Im.bytesOf 2 q.m.n) ++ Ms.sel q.m.kind 111 (Im.bytesOf 2 q.m.of) ++ Ms.sel q.m.kind 98 (Im.bytesOf 4 q.m.bits)) X) hS => Lib.hid (ws_sum q.m q.si q.sl q.sd P w.heap.size (w.heap.size + 1 + 1) (w.heap.size + 1) _ b Bb Bp X hbB (fun _ => hT.sum) hX (by (try simp only [List.length_append]); have e0 := Ms.sel_le q.m.kind 115 (Im.bytesOf 1 q.m.slot); have e1 := Ms.sel_le q.m.kind 103 (Im.bytesOf 2 q.m.gen); have e2 := Ms.sel_le q.m.kind 102 (Im.bytesOf 4 q.m.frame); have e3 := Ms.sel_le q.m.kind 99 (Im.bytesOf 1 q.m.code); have e4 := Ms.sel_le q.m.kind 110 (Im.bytesOf 2 q.m.n); have e5 := Ms.sel_le q.m.kind 111 (Im.bytesOf 2 q.m.of); have e6 := Ms.sel_le q.m.kind 98 (Im.bytesOf 4 q.m.bits); (try simp only [Im.bytesOf_len] at *); omega) hS)
  have ei : (Ms.has q.m.kind).contains 105 = true → q.m.ins.length ≤ 16 := fun hc => bd.ins (List.contains_iff_mem.1 hc)
  have el : (Ms.has q.m.kind).contains 108 = true → q.m.log.length ≤ 16 := fun hc => bd.log (List.contains_iff_mem.1 hc)
  have ed : (Ms.has q.m.kind).contains 100 = true → q.m.data.length ≤ 64 := fun hc => bd.data (List.contains_iff_mem.1 hc)
  have si : (Ms.sel q.m.kind 105 (Im.bytesOf 1 (q.m.ins.length : Int) ++ q.m.ins.flatMap En.inBytes)).length ≤ 49 := by
    unfold Ms.sel
    split
    · rename_i hc; have := ei hc; rw [List.length_append, Im.bytesOf_len]; omega
    · simp
  have sl : (Ms.sel q.m.kind 108 (Im.bytesOf 1 (q.m.log.length : Int) ++ q.m.log.flatMap Ms.logBytes)).length ≤ 1793 := by
    unfold Ms.sel
    split
    · rename_i hc; have := el hc; rw [List.length_append, Im.bytesOf_len]; omega
    · simp
  have c9 := fun X (hX : Wr b Bb Bp (bs ++ Ms.sel q.m.kind 115 (Im.bytesOf 1 q.m.slot) ++ Ms.sel q.m.kind 103 (Im.bytesOf 2 q.m.gen) ++ Ms.sel q.m.kind 102 (Im.bytesOf 4 q.m.frame) ++ Ms.sel q.m.kind 99 (Im.bytesOf 1 q.m.code) ++ Ms.sel q.m.kind 110 (Im.bytesOf 2 q.m.n) ++ Ms.sel q.m.kind 111 (Im.bytesOf 2 q.m.of) ++ Ms.sel q.m.kind 98 (Im.bytesOf 4 q.m.bits) ++ Ms.sel q.m.kind 109 (Im.bytesOf 8 q.m.sum)) X) hB hS => Lib.hid (ws_ins q.m q.si q.sl q.sd P w.heap.size (w.heap.size + 1 + 1) (w.heap.size + 1) _ b Bb Bp X hbB hbP ei hT.ins q.ai q.ci rfl (LI.out.below hB) hX (by (try simp only [List.length_append]); have e0 := Ms.sel_le q.m.kind 115 (Im.bytesOf 1 q.m.slot); have e1 := Ms.sel_le q.m.kind 103 (Im.bytesOf 2 q.m.gen); have e2 := Ms.sel_le q.m.kind 102 (Im.bytesOf 4 q.m.frame); have e3 := Ms.sel_le q.m.kind 99 (Im.bytesOf 1 q.m.code); have e4 := Ms.sel_le q.m.kind 110 (Im.bytesOf 2 q.m.n); have e5 := Ms.sel_le q.m.kind 111 (Im.bytesOf 2 q.m.of); have e6 := Ms.sel_le q.m.kind 98 (Im.bytesOf 4 q.m.bits); have e7 := Ms.sel_le q.m.kind 109 (Im.bytesOf 8 q.m.sum); simp only [Im.bytesOf_len, List.length_append] at *; omega) hS)
  have c10 := fun i' X (hX : Wr b Bb Bp (bs ++ Ms.sel q.m.kind 115 (Im.bytesOf 1 q.m.slot) ++ Ms.sel q.m.kind 103 (Im.bytesOf 2 q.m.gen) ++ Ms.sel q.m.kind 102 (Im.bytesOf 4 q.m.frame) ++ Ms.sel q.m.kind 99 (Im.bytesOf 1 q.m.code) ++ Ms.sel q.m.kind 110 (Im.bytesOf 2 q.m.n) ++ Ms.sel q.m.kind 111 (Im.bytesOf 2 q.m.of) ++ Ms.sel q.m.kind 98 (Im.bytesOf 4 q.m.bits) ++ Ms.sel q.m.kind 109 (Im.bytesOf 8 q.m.sum) ++ Ms.sel q.m.kind 105 (Im.bytesOf 1 (q.m.ins.length : Int) ++ q.m.ins.flatMap En.inBytes)) X) hB hS => Lib.hid (ws_log q.m i' q.sl q.sd P w.heap.size (w.heap.size + 1 + 1) (w.heap.size + 1) _ b Bb Bp X hbB hbP el (fun e he => ⟨by obtain ⟨k, hk, rfl⟩ := List.mem_iff_getElem.1 he; exact (hok.log k hk).1, hT.log e he⟩) q.al q.cl rfl (LL.out.below hB) hX (by rw [List.length_append]; have h9 := si; (try simp only [List.length_append]); have e0 := Ms.sel_le q.m.kind 115 (Im.bytesOf 1 q.m.slot); have e1 := Ms.sel_le q.m.kind 103 (Im.bytesOf 2 q.m.gen); have e2 := Ms.sel_le q.m.kind 102 (Im.bytesOf 4 q.m.frame); have e3 := Ms.sel_le q.m.kind 99 (Im.bytesOf 1 q.m.code); have e4 := Ms.sel_le q.m.kind 110 (Im.bytesOf 2 q.m.n); have e5 := Ms.sel_le q.m.kind 111 (Im.bytesOf 2 q.m.of); have e6 := Ms.sel_le q.m.kind 98 (Im.bytesOf 4 q.m.bits); have e7 := Ms.sel_le q.m.kind 109 (Im.bytesOf 8 q.m.sum); simp only [Im.bytesOf_len, List.length_append] at *; omega) hS)
  have c11 := fun i' l' X (hX : Wr b Bb Bp (bs ++ Ms.sel q.m.kind 115 (Im.bytesOf 1 q.m.slot) ++ Ms.sel q.m.kind 103 (Im.bytesOf 2 q.m.gen) ++ Ms.sel q.m.kind 102 (Im.bytesOf 4 q.m.frame) ++ Ms.sel q.m.kind 99 (Im.bytesOf 1 q.m.code) ++ Ms.sel q.m.kind 110 (Im.bytesOf 2 q.m.n) ++ Ms.sel q.m.kind 111 (Im.bytesOf 2 q.m.of) ++ Ms.sel q.m.kind 98 (Im.bytesOf 4 q.m.bits) ++ Ms.sel q.m.kind 109 (Im.bytesOf 8 q.m.sum) ++ Ms.sel q.m.kind 105 (Im.bytesOf 1 (q.m.ins.length : Int) ++ q.m.ins.flatMap En.inBytes) ++ Ms.sel q.m.kind 108 (Im.bytesOf 1 (q.m.log.length : Int) ++ q.m.log.flatMap Ms.logBytes)) X) hB hS => Lib.hid (ws_data q.m i' l' q.sd P w.heap.size (w.heap.size + 1 + 1) (w.heap.size + 1) _ b Bb Bp X hbB hbP ed hT.data q.ad q.cd rfl (LD.out.below hB) hX (by rw [List.length_append, List.length_append]; have h9 := si; have h10 := sl; (try simp only [List.length_append]); have e0 := Ms.sel_le q.m.kind 115 (Im.bytesOf 1 q.m.slot); have e1 := Ms.sel_le q.m.kind 103 (Im.bytesOf 2 q.m.gen); have e2 := Ms.sel_le q.m.kind 102 (Im.bytesOf 4 q.m.frame); have e3 := Ms.sel_le q.m.kind 99 (Im.bytesOf 1 q.m.code); have e4 := Ms.sel_le q.m.kind 110 (Im.bytesOf 2 q.m.n); have e5 := Ms.sel_le q.m.kind 111 (Im.bytesOf 2 q.m.of); have e6 := Ms.sel_le q.m.kind 98 (Im.bytesOf 4 q.m.bits); have e7 := Ms.sel_le q.m.kind 109 (Im.bytesOf 8 q.m.sum); simp only [Im.bytesOf_len, List.length_append] at *; omega) hS)
  have HW0 := Lib.hid hW0.symm
  have ltP := hP.lt
  clear h hP hL hT hok bd hW0 BB hsi hsl ei el ed si sl
  go_enter Try.func53, Try.ntmps53
  go_upto_region 2 with fail
  rw [HW0.out]
  go_wp2_with (go_at_call 66; first | ((with_reducible refine ((c1 _ I0.out S0.out).out).mono ?_); rintro e w1 ⟨rfl, hI, hS, hB, hK, hVK⟩; have I1 := Lib.hid hI; have S1 := Lib.hid hS; have D1 := Lib.hid (D0.out.trans hB); have K1 := Lib.hid (K0.out.trans hK); have V1 := Lib.hid (V0.out.trans hVK); clear hI hS hB hK hVK) | ((with_reducible refine ((c2 _ I1.out S1.out).out).mono ?_); rintro e w2 ⟨rfl, hI, hS, hB, hK, hVK⟩; have I2 := Lib.hid hI; have S2 := Lib.hid hS; have D2 := Lib.hid (D1.out.trans hB); have K2 := Lib.hid (K1.out.trans hK); have V2 := Lib.hid (V1.out.trans hVK); clear hI hS hB hK hVK) | ((with_reducible refine ((c3 _ I2.out S2.out).out).mono ?_); rintro e w3 ⟨rfl, hI, hS, hB, hK, hVK⟩; have I3 := Lib.hid hI; have S3 := Lib.hid hS; have D3 := Lib.hid (D2.out.trans hB); have K3 := Lib.hid (K2.out.trans hK); have V3 := Lib.hid (V2.out.trans hVK); clear hI hS hB hK hVK) | ((with_reducible refine ((c4 _ I3.out S3.out).out).mono ?_); rintro e w4 ⟨rfl, hI, hS, hB, hK, hVK⟩; have I4 := Lib.hid hI; have S4 := Lib.hid hS; have D4 := Lib.hid (D3.out.trans hB); have K4 := Lib.hid (K3.out.trans hK); have V4 := Lib.hid (V3.out.trans hVK); clear hI hS hB hK hVK) | ((with_reducible refine ((c5 _ I4.out S4.out).out).mono ?_); rintro e w5 ⟨rfl, hI, hS, hB, hK, hVK⟩; have I5 := Lib.hid hI; have S5 := Lib.hid hS; have D5 := Lib.hid (D4.out.trans hB); have K5 := Lib.hid (K4.out.trans hK); have V5 := Lib.hid (V4.out.trans hVK); clear hI hS hB hK hVK) | ((with_reducible refine ((c6 _ I5.out S5.out).out).mono ?_); rintro e w6 ⟨rfl, hI, hS, hB, hK, hVK⟩; have I6 := Lib.hid hI; have S6 := Lib.hid hS; have D6 := Lib.hid (D5.out.trans hB); have K6 := Lib.hid (K5.out.trans hK); have V6 := Lib.hid (V5.out.trans hVK); clear hI hS hB hK hVK) | ((with_reducible refine ((c7 _ I6.out S6.out).out).mono ?_); rintro e w7 ⟨rfl, hI, hS, hB, hK, hVK⟩; have I7 := Lib.hid hI; have S7 := Lib.hid hS; have D7 := Lib.hid (D6.out.trans hB); have K7 := Lib.hid (K6.out.trans hK); have V7 := Lib.hid (V6.out.trans hVK); clear hI hS hB hK hVK) | ((with_reducible refine ((c8 _ I7.out S7.out).out).mono ?_); rintro e w8 ⟨rfl, hI, hS, hB, hK, hVK⟩; have I8 := Lib.hid hI; have S8 := Lib.hid hS; have D8 := Lib.hid (D7.out.trans hB); have K8 := Lib.hid (K7.out.trans hK); have V8 := Lib.hid (V7.out.trans hVK); clear hI hS hB hK hVK) | ((with_reducible refine ((c9 _ I8.out D8.out S8.out).out).mono ?_); rintro e w9 ⟨rfl, hI, ⟨i', hS⟩, hB, hK, hVK⟩; have I9 := Lib.hid hI; have S9 := Lib.hid hS; have D9 := Lib.hid (D8.out.trans hB); have K9 := Lib.hid (K8.out.trans hK); have V9 := Lib.hid (V8.out.trans hVK); clear hI hS hB hK hVK) | ((with_reducible refine ((c10 _ _ I9.out D9.out S9.out).out).mono ?_); rintro e w10 ⟨rfl, hI, ⟨l', hS⟩, hB, hK, hVK⟩; have I10 := Lib.hid hI; have S10 := Lib.hid hS; have D10 := Lib.hid (D9.out.trans hB); have K10 := Lib.hid (K9.out.trans hK); have V10 := Lib.hid (V9.out.trans hVK); clear hI hS hB hK hVK) | ((with_reducible refine ((c11 _ _ _ I10.out D10.out S10.out).out).mono ?_); rintro e w11 ⟨rfl, hI, ⟨d', hS⟩, hB, hK, hVK⟩; have I11 := Lib.hid hI; have S11 := Lib.hid hS; have D11 := Lib.hid (D10.out.trans hB); have K11 := Lib.hid (K10.out.trans hK); have V11 := Lib.hid (V10.out.trans hVK); clear hI hS hB hK hVK))
  go_end0
  exact ⟨rfl, I11.out, D11.out, K11.out, V11.out⟩
end Go.Proofs.Ytgmlbimgcifenaa
