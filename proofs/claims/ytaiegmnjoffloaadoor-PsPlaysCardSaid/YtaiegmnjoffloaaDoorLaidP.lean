/-
  OUT OF THE ROW's CONDITION ('laidMet', a list of sentinels): api's errors as the contracts want them ('Sent').
-/
import Derived.Test.YtaiegmnjoffloaaDoorErrP
import Derived.LaidLaws
import Derived.MakeChecks
import Derived.Lib.SmallJoins
import Derived.Stop.LaidErr
namespace Go.Proofs.YtaiegmnjoffloaaDoor
open Go.ChangeShapes Go.WideShapes Go.ChangeAt Go.RowKit
set_option linter.unusedVariables false

/-- an error of errors.New, read through. -/
def sentD (text : List UInt8) : DataW Unit := .iface "*errors.errorString" (.ptr (.agg [.lit (.string text)]))
theorem rowErr (u : TypeId) (h : Tryd.prog.typeName? 3 u = some "*errors.errorString") : u = 85 :=
  typeName_ptr_named (nm := "errors.errorString") (by rw [show "*" ++ "errors.errorString" = "*errors.errorString" by decide]; kernel_rfl) (by kernel_rfl) (by decide) u (by rw [show "*" ++ "errors.errorString" = "*errors.errorString" by decide]; exact h)
theorem cellsErr : Tryd.prog.cellsOf 103 = 1 := by kernel_rfl
theorem cellsStr : Tryd.prog.cellsOf 9 = 1 := by kernel_rfl

set_option maxRecDepth 100000 in
theorem sent_ind (W : World) : ∀ (L : List (Nat × String × DataW Unit)) (ps : List MemPlace), (∀ x ∈ L, Tryd.prog.globalNamed x.2.1 = some (gOf x.1) ∧ (Tryd.prog.globals[gOf x.1]?).map (·.type) = some 44 ∧ ∃ text, x.2.2 = sentD text) → (L.map (·.1)).Nodup →
    DataW.LaidVars Tryd.prog W (L.map fun x => (x.2.1, x.2.2)) ps →
    (∀ b off, MemPlace.cell b off ∈ ps → (∃ c t, W.heap[b]? = some (.cells c t (0, 0))) ∧ ∀ u v, W.cell? ⟨b, off, none⟩ = some (.iface u v) → Value.okWide Tryd.prog W .any 0 u v) →
    ∃ E : Nat → Addr, (∀ x ∈ L, W.cell? ⟨gOf x.1, 0, none⟩ = some (errP (E x.1)) ∧ MemPlace.cell (E x.1).block (E x.1).off ∈ ps) ∧ (ps.Nodup → ∀ x ∈ L, ∀ y ∈ L, E x.1 = E y.1 → x.1 = y.1)
  | [], _, _, _, _, _ => ⟨fun _ => ⟨0, 0, none⟩, (fun x h => absurd h List.not_mem_nil), (fun _ x h => absurd h List.not_mem_nil)⟩
  | x0 :: r, ps, hL, hnd, hv, hrows => by
    obtain ⟨c0, n0, d0⟩ := x0
    obtain ⟨hg0, ht0, text, hd0⟩ := hL _ List.mem_cons_self
    simp only at hg0 ht0 hd0
    subst hd0
    obtain ⟨g, t, cs, fuel, p, q, hg, ht, hvar, htr, hq, rfl⟩ := hv
    obtain rfl := Option.some.inj (hg0.symm.trans hg)
    obtain rfl := Option.some.inj (ht0.symm.trans ht)
    obtain ⟨E, hE, hap⟩ := sent_ind W r q (fun x hx => hL x (List.mem_cons_of_mem _ hx)) (List.nodup_cons.1 hnd).2 hq (fun b off hm => hrows b off (List.mem_append_right _ hm))
    obtain ⟨l0⟩ := cs
    have ok0 : ∀ u v, l0 = [.iface u v] → Value.okWide Tryd.prog W .any 0 u v := fun u v e => by
      subst e
      exact (hrows (gOf c0) 0 (by simp [MemPlace.row])).2 u v (by simpa using World.var?_cell hg hvar 0)
    obtain ⟨a, s, rfl, hc, _, _, rfl⟩ := errorString_of_trod Tryd.underlying44 rowErr Tryd.underlying85 Tryd.underlying103 rfl rfl Tryd.underlying9 cellsErr cellsStr htr ok0
    have hnot : ∀ y ∈ r, y.1 ≠ c0 := fun y hy e => (List.nodup_cons.1 hnd).1 (by rw [← e]; exact List.mem_map_of_mem (f := (·.1)) hy)
    refine ⟨fun c => if c = c0 then a else E c, ?_, ?_⟩
    · intro x hx
      rcases List.mem_cons.1 hx with rfl | hx
      · simp only [if_true]
        exact ⟨by simpa using World.var?_cell hg hvar 0, by simp [MemPlace.row]⟩
      · simp only [if_neg (hnot x hx)]
        exact ⟨(hE x hx).1, List.mem_append_right _ (hE x hx).2⟩
    · intro hnodup x hx y hy e
      have hsplit := List.nodup_append.1 hnodup
      have hmem : MemPlace.cell a.block a.off ∈ MemPlace.row ⟨gOf c0, 0, none⟩ (Array.mk [Value.iface 85 (.pointer (some a))]).size ++ MemPlace.row a 1 := by simp [MemPlace.row]
      rcases List.mem_cons.1 hx with rfl | hx <;> rcases List.mem_cons.1 hy with rfl | hy
      · rfl
      · exfalso
        simp only [if_true, if_neg (hnot y hy)] at e
        subst e
        exact hsplit.2.2 _ hmem _ (hE y hy).2 rfl
      · exfalso
        simp only [if_true, if_neg (hnot x hx)] at e
        subst e
        exact hsplit.2.2 _ hmem _ (hE x hx).2 rfl
      · simp only [if_neg (hnot x hx), if_neg (hnot y hy)] at e
        exact hap hsplit.2.1 x hx y hy e

/-- THE CONDITION GIVES THE ERRORS. -/
theorem sent_of_laid {W : World} (L : List (Nat × String × DataW Unit)) (hL : ∀ x ∈ L, Tryd.prog.globalNamed x.2.1 = some (gOf x.1) ∧ (Tryd.prog.globals[gOf x.1]?).map (·.type) = some 44 ∧ ∃ text, x.2.2 = sentD text)
    (hnd : (L.map (·.1)).Nodup) (h : laidMet Tryd.prog (L.map fun x => (x.2.1, x.2.2)) W) : ∃ E : Nat → Addr, Sent W E (L.map (·.1)) := by
  obtain ⟨ps, hv, hn, hrows⟩ := h
  obtain ⟨E, hE, hap⟩ := sent_ind W L ps hL hnd hv hrows
  refine ⟨E, fun c hc => ?_, fun c hc d hd e => ?_, fun c hc => ?_⟩
  · obtain ⟨x, hx, rfl⟩ := List.mem_map.1 hc
    exact (hE x hx).1
  · obtain ⟨x, hx, rfl⟩ := List.mem_map.1 hc
    obtain ⟨y, hy, rfl⟩ := List.mem_map.1 hd
    exact hap hn x hx y hy e
  · obtain ⟨x, hx, rfl⟩ := List.mem_map.1 hc
    exact (hrows _ _ (hE x hx).2).1
end Go.Proofs.YtaiegmnjoffloaaDoor
