/-
The program's image: Put.
-/
import Derived.Test.YtbihnmingedgfaaIj
import Derived.WalkLawsBesides
import Derived.Defers
import Derived.Recover
namespace Go.Proofs.Ytbihnmingedgfaa
open Go.RowKit Go.Shelf
set_option linter.unusedVariables false
set_option linter.unusedSimpArgs false

theorem catch_put (Bb Bc : Nat) (u : TypeId) (pv : Value) (older : List PanicEntry) (w : World) (x : Value) (hb : Box w Bb 54 #[x]) (y : Int) (hc : Box w Bc 3 #[.int .i64 y]) :
    CallsD Try.prog 75 #[.pointer (some ⟨Bb, 0, none⟩), .pointer (some ⟨Bc, 0, none⟩)] (.panicking ({ v := .iface u pv, recovered := false } :: older)) w fun e u' w' =>
      e = .returned (.tuple #[]) ∧ u' = .panicking ({ v := .iface u pv, recovered := true } :: older) ∧ w' = (w.setCell ⟨Bb, 0, none⟩ (.slice none 0 0)).setCell ⟨Bc, 0, none⟩ (.int .i64 1) := by
  have ne : Bb ≠ Bc := Box.apart hb hc (by decide)
  have c1 := hb.cell 0
  have f1 := hb.free 0
  have c2 := hc.cell 0
  have f2 := hc.free 0
  refine callsD_of_wpS Try.func75 rfl fun c₀ cs hu => ?_
  apply wpS_seq
  apply wpS_region
  simp [wpOpsS, go_sem, recoverD, hu, Try.ntmps75, Exit.thenS]
  refine wpS_cond (t := true) (by simp [Act.eval, Array.replicate]) ?_
  simp only [if_true]
  apply wpS_region
  have c2' : (w.setCell ⟨Bb, 0, none⟩ (.slice none 0 0)).cell? ⟨Bc, 0, none⟩ = some (.int .i64 y) := (hc.far (p := ⟨Bb, 0, none⟩) (fun e => ne e.symm) _).cell 0
  have f2' : (w.setCell ⟨Bb, 0, none⟩ (.slice none 0 0)).frozen? ⟨Bc, 0, none⟩ = false := (hc.far (p := ⟨Bb, 0, none⟩) (fun e => ne e.symm) _).free 0
  simp [wpOpsS, go_sem, c1, f1, c2', f2', bodyPostS, results, Try.results75]

theorem catch_idle_put (p q : Addr) (w : World) :
    CallsD Try.prog 75 #[.pointer (some p), .pointer (some q)] .returning w fun e u' w' => e = .returned (.tuple #[]) ∧ u' = .returning ∧ w' = w := by
  refine callsD_of_wpS Try.func75 rfl fun c₀ cs hu => ?_
  apply wpS_seq
  apply wpS_region
  simp [wpOpsS, go_sem, recoverD, hu, Try.ntmps75, Exit.thenS]
  refine wpS_cond (t := false) (by simp [Act.eval, Array.replicate]) ?_
  simp only [Bool.false_eq_true, if_false]
  refine wpS_of_wp (wp_skip ?_)
  cases c₀
  simp_all [bodyPostS, results, Try.results75]
end Go.Proofs.Ytbihnmingedgfaa
