/-
  SIX BYTES THAT CAME IN, OPENED.
-/
import Derived.Test.YtjgingfcfmpfaaaDoorA6
import Derived.Lib.SmallJoins
namespace Go.Proofs.YtjgingfcfmpfaaaDoor
open Go.ChangeShapes Go.WideShapes Go.ChangeAt Go.RowKit Go.Joins
set_option linter.unusedVariables false
set_option linter.unusedSimpArgs false

theorem cellsAddr : Tryd.prog.cellsOf 23 = 6 := by kernel_rfl
theorem cellsU8 : Tryd.prog.cellsOf 5 = 1 := by kernel_rfl
theorem cellsI : Tryd.prog.cellsOf 3 = 1 := by kernel_rfl

section
variable {H : Type} {enc : TypeId × Value → H} {W : World} {base : Nat} {sp : Nat → Bool} {held : Bool}
theorem open_six {fuel : Nat} {cs : List Value} {x : DataW H × List MemPlace} (h : DataW.trod enc Tryd.prog W base sp held fuel 23 cs = some x) : ∃ a : A6, cs = a.cells.toList ∧ a.wf := by
  obtain ⟨xs, m, _, _, hl, hn, hel⟩ := DataW.trod_array Tryd.underlying23 h
  rw [cellsAddr] at hl
  rw [cellsU8] at hel
  match cs, hl with
  | [c0, c1, c2, c3, c4, c5], _ =>
    match xs, hn with
    | [y0, y1, y2, y3, y4, y5], _ =>
      obtain ⟨n0, e0, _, w0⟩ := DataW.trod_int Tryd.underlying5 (hel 0 (by omega))
      obtain ⟨n1, e1, _, w1⟩ := DataW.trod_int Tryd.underlying5 (hel 1 (by omega))
      obtain ⟨n2, e2, _, w2⟩ := DataW.trod_int Tryd.underlying5 (hel 2 (by omega))
      obtain ⟨n3, e3, _, w3⟩ := DataW.trod_int Tryd.underlying5 (hel 3 (by omega))
      obtain ⟨n4, e4, _, w4⟩ := DataW.trod_int Tryd.underlying5 (hel 4 (by omega))
      obtain ⟨n5, e5, _, w5⟩ := DataW.trod_int Tryd.underlying5 (hel 5 (by omega))
      simp at e0 e1 e2 e3 e4 e5
      subst e0 e1 e2 e3 e4 e5
      refine ⟨⟨n0, n1, n2, n3, n4, n5⟩, rfl, fun v hv => ?_⟩
      have k0 := wf_range w0
      have k1 := wf_range w1
      have k2 := wf_range w2
      have k3 := wf_range w3
      have k4 := wf_range w4
      have k5 := wf_range w5
      simp [IntKind.min, IntKind.max, IntKind.signed, IntKind.bits] at k0 k1 k2 k3 k4 k5
      simp [A6.l] at hv
      rcases hv with rfl | rfl | rfl | rfl | rfl | rfl <;> assumption
end
end Go.Proofs.YtjgingfcfmpfaaaDoor
