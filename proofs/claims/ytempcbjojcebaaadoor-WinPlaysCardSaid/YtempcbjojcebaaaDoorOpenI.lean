/-
  A SLICE OF STRUCTS OF TWO NUMBERS THAT CAME IN, OPENED. No program is named.
-/
import Derived.Test.YtempcbjojcebaaaDoorRowS
import Derived.Deep.SlicePairs
import Derived.OpenShut
namespace Go.Proofs.YtempcbjojcebaaaDoor
open Go.ChangeShapes Go.WideShapes Go.ChangeAt Go.RowKit Go.Deep
set_option linter.unusedVariables false

theorem open_pairs {H : Type} {enc : TypeId × Value → H} {P : Program} {w : World} {base : Nat} {spare : Nat → Bool} {held : Bool} {t e : TypeId} {f0 f1 : Field} {k0 k1 : IntKind} {fuel : Nat} {v : Value} {x : DataW H × List MemPlace}
    (ht : P.underlying t = some (.slice e)) (he : P.underlying e = some (.struct #[f0, f1])) (ce : P.cellsOf e = 2) (o0 : f0.offset = 0) (o1 : f1.offset = 1) (c0 : P.cellsOf f0.type = 1) (c1 : P.cellsOf f1.type = 1)
    (t0 : P.underlying f0.type = some (.int k0)) (t1 : P.underlying f1.type = some (.int k1)) {α : Type} (mk : Int → Int → α) (F : α → List Value) (hF : ∀ a b, F (mk a b) = [.int k0 a, .int k1 b]) (d : α)
    (h : DataW.trod enc P w base spare held fuel t [v] = some x) :
    ∃ A n c l, v = .slice A n c ∧ RowS F 2 d w A n l ∧ n ≤ c ∧ ∀ u ∈ l, ∃ a b, u = mk a b ∧ (Lit.int k0 a).wf = true ∧ (Lit.int k1 b).wf = true := by
  rcases open_slice_pairs ht he ce o0 o1 c0 c1 h with ⟨h0, -⟩ | ⟨a, len, cap, m, n, V0, V1, D0, D1, P0, P1, h0, hb, hl, hm, hmm, -, hx⟩
  · simp at h0
    exact ⟨none, 0, 0, [], h0, RowS.nil, Nat.le_refl _, fun u hu => by cases hu⟩
  · simp at h0
    have hlm : len ≤ m := by rw [hmm]; split <;> omega
    have each : ∀ i, i < len → ∃ q : Int × Int, V0 i = .int k0 q.1 ∧ V1 i = .int k1 q.2 ∧ (Lit.int k0 q.1).wf = true ∧ (Lit.int k1 q.2).wf = true := by
      intro i hi
      obtain ⟨-, -, g0, g1⟩ := hx i (by omega)
      obtain ⟨a0, e0, -, w0⟩ := DataW.trod_int t0 g0
      obtain ⟨a1, e1, -, w1⟩ := DataW.trod_int t1 g1
      simp at e0 e1
      exact ⟨(a0, a1), e0, e1, w0, w1⟩
    obtain ⟨f, hf⟩ := choose_lt each
    refine ⟨some a, len, cap, (List.range len).map fun i => mk (f i).1 (f i).2, h0, ⟨by simp, by omega, fun hp => ?_⟩, hl, ?_⟩
    · obtain ⟨b, off, spot⟩ := a
      have hc0 := (hx 0 (by omega)).1
      have hspot : spot = none := by simpa [Addr.add] using World.cell?_spot hc0
      subst hspot
      refine ⟨b, off, rfl, fun i hi => ?_⟩
      have hg : ((List.range len).map fun i => mk (f i).1 (f i).2).getD i d = mk (f i).1 (f i).2 := by simp [List.getD, hi]
      rw [hg, hF]
      obtain ⟨x0, x1, -, -⟩ := hx i (by omega)
      rw [Addr.add_mid] at x0 x1
      rw [(hf i hi).1] at x0
      rw [(hf i hi).2.1] at x1
      intro j v hv
      match j with
      | 0 => simp at hv; subst hv; simpa using x0
      | 1 => simp at hv; subst hv; simpa [Nat.add_assoc] using x1
      | j + 2 => simp at hv
    · intro u hu
      obtain ⟨i, hi, rfl⟩ := List.mem_map.1 hu
      have hi' := List.mem_range.1 hi
      exact ⟨_, _, rfl, (hf i hi').2.2.1, (hf i hi').2.2.2⟩
end Go.Proofs.YtempcbjojcebaaaDoor
