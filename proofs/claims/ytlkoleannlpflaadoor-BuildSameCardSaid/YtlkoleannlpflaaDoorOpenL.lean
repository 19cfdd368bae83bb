/-
  Limits THAT CAME IN, OPENED.
-/
import Derived.Test.YtlkoleannlpflaaDoorOpenR
import Derived.Test.YtlkoleannlpflaaDoorBuildA
namespace Go.Proofs.YtlkoleannlpflaaDoor
open Go.ChangeShapes Go.WideShapes Go.ChangeAt Go.RowKit Go.Joins
set_option linter.unusedVariables false

theorem cellsI64 : Tryd.prog.cellsOf 2 = 1 := by kernel_rfl
theorem cellsLm : Tryd.prog.cellsOf 25 = 3 := by kernel_rfl
structure IsLim (q : Lm) : Prop where
  c : IntKind.i64.min ≤ q.c ∧ q.c ≤ IntKind.i64.max
  b : IntKind.i64.min ≤ q.b ∧ q.b ≤ IntKind.i64.max
  t : IntKind.i64.min ≤ q.t ∧ q.t ≤ IntKind.i64.max

section
variable {H : Type} {enc : TypeId × Value → H} {W : World} {base : Nat} {held : Bool}
theorem open_lim {r : Reach} {b0 : Nat} {v : Value} {d : DataW H} {p : List MemPlace} (hv : Value.okWide Tryd.prog W r b0 25 v) (h : DataW.Trod enc Tryd.prog W base (fun _ => true) held 25 v d p) :
    ∃ q : Lm, v = q.val ∧ IsLim q := by
  obtain ⟨cs, rfl, hsz⟩ := okWide_struct Tryd.underlying25 hv
  obtain ⟨l⟩ := cs
  have hl : l.length = 3 := by simpa [cellsLm] using hsz
  match l, hl with
  | [c0, c1, c2], _ =>
    obtain ⟨fuel, hf⟩ := h
    obtain ⟨xs, n, _, hx, _, hlen, hg⟩ := DataW.trod_struct Tryd.underlying25 hf
    match xs, hlen with
    | [y0, y1, y2], _ =>
      have g0 : DataW.trod enc Tryd.prog W base (fun _ => true) held n 3 (List.take (Tryd.prog.cellsOf 3) (List.drop 0 [c0, c1, c2])) = some y0 := hg 0 _ rfl
      have g1 : DataW.trod enc Tryd.prog W base (fun _ => true) held n 3 (List.take (Tryd.prog.cellsOf 3) (List.drop 1 [c0, c1, c2])) = some y1 := hg 1 _ rfl
      have g2 : DataW.trod enc Tryd.prog W base (fun _ => true) held n 2 (List.take (Tryd.prog.cellsOf 2) (List.drop 2 [c0, c1, c2])) = some y2 := hg 2 _ rfl
      rw [cellsI] at g0 g1
      rw [cellsI64] at g2
      obtain ⟨a0, e0, _, w0⟩ := DataW.trod_int Tryd.underlying3 g0
      obtain ⟨a1, e1, _, w1⟩ := DataW.trod_int Tryd.underlying3 g1
      obtain ⟨a2, e2, _, w2⟩ := DataW.trod_int Tryd.underlying2 g2
      simp at e0 e1 e2
      subst e0 e1 e2
      exact ⟨⟨a0, a1, a2⟩, rfl, ⟨wf_range w0, wf_range w1, wf_range w2⟩⟩
end
end Go.Proofs.YtlkoleannlpflaaDoor
