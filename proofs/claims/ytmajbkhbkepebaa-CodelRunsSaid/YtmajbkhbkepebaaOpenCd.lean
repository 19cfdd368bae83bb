/-
  A Codel THAT CAME IN, OPENED; an Item's predicate.
-/
import Derived.Test.YtmajbkhbkepebaaCodA
import Derived.Test.YtmajbkhbkepebaaOpenI
import Derived.OpenShut
import Derived.Lib.SmallJoins
namespace Go.Proofs.Ytmajbkhbkepebaa
open Go.ChangeShapes Go.WideShapes Go.ChangeAt Go.RowKit Go.Joins
set_option linter.unusedVariables false

theorem wf_u32 {n : Int} (h : (Lit.int .u32 n).wf = true) : 0 ≤ n ∧ n < 4294967296 := by
  have h' : IntKind.u32.min ≤ n ∧ n ≤ IntKind.u32.max := by simpa [Lit.wf] using h
  have a : IntKind.u32.min = 0 := by decide
  have b : IntKind.u32.max = 4294967295 := by decide
  rw [a, b] at h'
  omega
theorem wf_i64 {n : Int} (h : (Lit.int .i64 n).wf = true) : -9223372036854775808 ≤ n ∧ n ≤ 9223372036854775807 := by
  have h' : IntKind.i64.min ≤ n ∧ n ≤ IntKind.i64.max := by simpa [Lit.wf] using h
  have a : IntKind.i64.min = -9223372036854775808 := by decide
  have b : IntKind.i64.max = 9223372036854775807 := by decide
  rw [a, b] at h'
  omega
def okI (u : It) : Prop := ∃ a b, u = ⟨a, b⟩ ∧ (Lit.int .i64 a).wf = true ∧ (Lit.int .i64 b).wf = true
def Cd.val (c : Cd) : Value := (Value.agg #[Value.int IntKind.i64 c.first, Value.int IntKind.i64 c.drop, Value.int IntKind.u32 ((c.count : Nat) : Int), Value.int IntKind.u32 ((c.last : Nat) : Int), Value.bool c.on])
structure IsCd (c : Cd) : Prop where
  count : c.count < 4294967296
  last : c.last < 4294967296
theorem cellsI1 : Try.prog.cellsOf 2 = 1 := by kernel_rfl
theorem cellsI2 : Try.prog.cellsOf 22 = 1 := by kernel_rfl
theorem cellsI3 : Try.prog.cellsOf 4 = 1 := by kernel_rfl
theorem cellsCd : Try.prog.cellsOf 24 = 5 := by kernel_rfl

section
variable {H : Type} {enc : TypeId × Value → H} {W : World} {base : Nat} {held : Bool}
theorem open_cd {r : Reach} {b0 : Nat} {v : Value} {d : DataW H} {p : List MemPlace} (hv : Value.okWide Try.prog W r b0 24 v) (h : DataW.Trod enc Try.prog W base (fun _ => true) held 24 v d p) :
    ∃ q : Cd, v = q.val ∧ IsCd q := by
  obtain ⟨cs, rfl, hsz⟩ := okWide_struct Try.underlying24 hv
  obtain ⟨l⟩ := cs
  have hl : l.length = 5 := by simpa [cellsCd] using hsz
  match l, hl with
  | [c0, c1, c2, c3, c4], _ =>
    obtain ⟨fuel, hf⟩ := h
    obtain ⟨xs, n, _, hx, _, hlen, hg⟩ := DataW.trod_struct Try.underlying24 hf
    match xs, hlen with
    | [y0, y1, y2, y3, y4], _ =>
      have g0 : DataW.trod enc Try.prog W base (fun _ => true) held n 2 (List.take (Try.prog.cellsOf 2) (List.drop 0 [c0, c1, c2, c3, c4])) = some y0 := hg 0 _ rfl
      have g1 : DataW.trod enc Try.prog W base (fun _ => true) held n 2 (List.take (Try.prog.cellsOf 2) (List.drop 1 [c0, c1, c2, c3, c4])) = some y1 := hg 1 _ rfl
      have g2 : DataW.trod enc Try.prog W base (fun _ => true) held n 22 (List.take (Try.prog.cellsOf 22) (List.drop 2 [c0, c1, c2, c3, c4])) = some y2 := hg 2 _ rfl
      have g3 : DataW.trod enc Try.prog W base (fun _ => true) held n 22 (List.take (Try.prog.cellsOf 22) (List.drop 3 [c0, c1, c2, c3, c4])) = some y3 := hg 3 _ rfl
      have g4 : DataW.trod enc Try.prog W base (fun _ => true) held n 4 (List.take (Try.prog.cellsOf 4) (List.drop 4 [c0, c1, c2, c3, c4])) = some y4 := hg 4 _ rfl
      rw [cellsI1] at g0 g1
      rw [cellsI2] at g2 g3
      rw [cellsI3] at g4
      obtain ⟨a0, e0, _, w0⟩ := DataW.trod_int Try.underlying2 g0
      obtain ⟨a1, e1, _, w1⟩ := DataW.trod_int Try.underlying2 g1
      obtain ⟨a2, e2, _, w2⟩ := DataW.trod_int Try.underlying22 g2
      obtain ⟨a3, e3, _, w3⟩ := DataW.trod_int Try.underlying22 g3
      obtain ⟨a4, e4, _⟩ := DataW.trod_bool Try.underlying4 g4
      simp at e0 e1 e2 e3 e4
      obtain ⟨m2, rfl⟩ := Int.eq_ofNat_of_zero_le (wf_u32 w2).1
      obtain ⟨m3, rfl⟩ := Int.eq_ofNat_of_zero_le (wf_u32 w3).1
      have h2 := (wf_u32 w2).2
      have h3 := (wf_u32 w3).2
      subst e0 e1 e2 e3 e4
      exact ⟨⟨a0, a1, m2, m3, a4⟩, rfl, ⟨by show m2 < _; omega, by show m3 < _; omega⟩⟩
end
end Go.Proofs.Ytmajbkhbkepebaa
