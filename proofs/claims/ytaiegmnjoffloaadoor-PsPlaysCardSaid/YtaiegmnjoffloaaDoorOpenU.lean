/-
  FOUR FLAGS THAT CAME IN, OPENED.
-/
import Derived.Test.YtaiegmnjoffloaaDoorPsL
import Derived.OpenShut
namespace Go.Proofs.YtaiegmnjoffloaaDoor
open Go.ChangeShapes Go.WideShapes Go.ChangeAt Go.RowKit Go.Deep
set_option linter.unusedVariables false
set_option linter.unusedSimpArgs false

theorem okWide_array {P : Program} {W : World} {r : Reach} {b0 : Nat} {t e : TypeId} {n : Nat} {v : Value} (ht : P.underlying t = some (.array n e)) (h : Value.okWide P W r b0 t v) : ∃ cs, v = .agg cs ∧ cs.size = P.cellsOf t := by
  unfold Value.okWide at h
  rw [ht] at h
  obtain ⟨cs, h1, h2, -⟩ := h
  exact ⟨cs, h1, h2⟩
theorem cells4b : Tryd.prog.cellsOf 26 = 4 := by kernel_rfl
/-- four flags as a function. -/
def flags (a b c d : Bool) : Nat → Bool
  | 0 => a
  | 1 => b
  | 2 => c
  | _ => d
section
variable {H : Type} {enc : TypeId × Value → H} {W : World} {base : Nat} {held : Bool}
theorem open_b4 {fuel : Nat} {cs : List Value} {x : DataW H × List MemPlace} (h : DataW.trod enc Tryd.prog W base (fun _ => true) held fuel 26 cs = some x) : ∃ b0 b1 b2 b3, cs = [Value.bool b0, .bool b1, .bool b2, .bool b3] := by
  obtain ⟨xs, m, _, _, hl, hn, hel⟩ := DataW.trod_array Tryd.underlying26 h
  rw [show Tryd.prog.cellsOf 26 = 4 by kernel_rfl] at hl
  rw [show Tryd.prog.cellsOf 4 = 1 by kernel_rfl] at hel
  match cs, hl with
  | [c0, c1, c2, c3], _ =>
    match xs, hn with
    | [y0, y1, y2, y3], _ =>
      obtain ⟨n0, e0, _⟩ := DataW.trod_bool Tryd.underlying4 (hel 0 (by omega))
      obtain ⟨n1, e1, _⟩ := DataW.trod_bool Tryd.underlying4 (hel 1 (by omega))
      obtain ⟨n2, e2, _⟩ := DataW.trod_bool Tryd.underlying4 (hel 2 (by omega))
      obtain ⟨n3, e3, _⟩ := DataW.trod_bool Tryd.underlying4 (hel 3 (by omega))
      simp at e0 e1 e2 e3
      subst e0 e1 e2 e3
      exact ⟨n0, n1, n2, n3, rfl⟩
theorem open_flags {r : Reach} {b0 : Nat} {v : Value} {d : DataW H} {p : List MemPlace} (hv : Value.okWide Tryd.prog W r b0 26 v) (h : DataW.Trod enc Tryd.prog W base (fun _ => true) held 26 v d p) :
    ∃ u : Nat → Bool, v = .agg #[.bool (u 0), .bool (u 1), .bool (u 2), .bool (u 3)] := by
  obtain ⟨cs, rfl, hsz⟩ := okWide_array Tryd.underlying26 hv
  obtain ⟨fuel, hf⟩ := h
  obtain ⟨c0, c1, c2, c3, e⟩ := open_b4 hf
  obtain ⟨l⟩ := cs
  have e : l = [Value.bool c0, .bool c1, .bool c2, .bool c3] := e
  subst e
  exact ⟨flags c0 c1 c2 c3, rfl⟩
end
end Go.Proofs.YtaiegmnjoffloaaDoor
