/-
  THE TABLES OF PACKAGE rate AS ITS VARIABLES HOLD THEM, out of the row's condition ('laidMet').
-/
import Derived.Test.YtddbboocommodaaDoorRowS
import Derived.Lib.LaidU8
import Derived.LaidMore
import Derived.MakeChecks
namespace Go.Proofs.YtddbboocommodaaDoor
open Go.ChangeShapes Go.WideShapes Go.ChangeAt Go.RowKit
set_option linter.unusedVariables false
set_option linter.unusedSimpArgs false

def legL : List Int := [24, 36, 48, 72, 96, 144, 192, 216]
def codL : List (List Int) := [[1, 1, 2], [2, 1, 2], [2, 3, 4], [4, 1, 2], [4, 3, 4], [6, 2, 3], [6, 3, 4], [6, 5, 6], [8, 3, 4], [8, 5, 6], [10, 3, 4], [10, 5, 6]]
/-- the two tables lie there. -/
structure Tab (w : World) : Prop where
  leg : ∀ i, i < 8 → w.cell? ⟨0, i, none⟩ = some (.int .i64 (legL.getD i 0))
  cod : ∀ i, i < 12 → ∀ j, j < 3 → w.cell? ⟨1, i * 3 + j, none⟩ = some (.int .i64 ((codL.getD i []).getD j 0))
theorem Tab.below {w w' : World} (h : Tab w) (hb : Below w.heap.size w w') : Tab w' :=
  ⟨fun i hi => below_at hb (h.leg i hi), fun i hi j hj => below_at hb (h.cod i hi j hj)⟩
theorem Tab.drewN {w : World} (h : Tab w) (n : Nat) : Tab (w.drewN n) := ⟨h.leg, h.cod⟩
def legD : DataW Unit := Lib.tabData .i64 legL
def codD : DataW Unit := .agg (codL.map fun l => .agg (l.map fun z => .lit (.int .i64 z)))
def rateL : List (String × DataW Unit) := [("muezzin/rate.legacyBits", legD), ("muezzin/rate.codings", codD)]
theorem tab_of_laid {W : World} (h : laidMet Tryd.prog rateL W) : Tab W := by
  have hA := Lib.tabIs_of_head (g := 0) (t := 42) (e := 3) (n := 8) (by kernel_rfl) (by kernel_rfl) Tryd.underlying42 Tryd.underlying3 (by kernel_rfl) (by kernel_rfl) h
  refine ⟨fun i hi => hA.cell (by kernel_rfl) i hi, fun i hi j hj => ?_⟩
  obtain ⟨g, t, cs, fuel, p, hg, ht, hvar, hd⟩ := Lib.laidMet.reads h (.tail _ (.head _))
  have hg' : Tryd.prog.globalNamed "muezzin/rate.codings" = some 1 := by kernel_rfl
  obtain rfl := Option.some.inj (hg'.symm.trans hg)
  have ht' : (Tryd.prog.globals[1]?).map (·.type) = some 45 := by kernel_rfl
  obtain rfl := Option.some.inj (ht'.symm.trans ht)
  obtain ⟨f', d, q, hds, htr⟩ := Lib.array_elem Tryd.underlying45 hd i hi
  have hc3 : Tryd.prog.cellsOf 44 = 3 := by kernel_rfl
  rw [hc3] at htr
  have hdd : d = .agg ((codL.getD i []).map fun z => .lit (.int .i64 z)) := by
    rw [List.getElem?_map] at hds
    have hl : codL[i]? = some (codL.getD i []) := by
      have : i < codL.length := hi
      simp [List.getD, this]
    rw [hl] at hds
    exact (Option.some.inj hds).symm
  rw [hdd] at htr
  have hcells := Lib.ints_of_struct Tryd.underlying44 (by
    intro k f hf
    have : k < 3 := by
      have := (Array.getElem?_eq_some_iff.1 hf).1
      exact this
    rcases (by omega : k = 0 ∨ k = 1 ∨ k = 2) with rfl | rfl | rfl <;> (cases hf; exact ⟨Tryd.underlying3, rfl, by kernel_rfl⟩)) (by kernel_rfl) htr
  have hcl : (codL.getD i []).length = 3 := by
    have : ∀ i, i < 12 → (codL.getD i []).length = 3 := by decide
    exact this i hi
  have h1 := World.var?_cell hg' hvar (i * 3 + j)
  rw [h1]
  have h2 := congrArg (·[j]?) hcells
  simp only [List.getElem?_take, List.getElem?_drop, hj, if_true, List.getElem?_map] at h2
  have h3 : (codL.getD i [])[j]? = some ((codL.getD i []).getD j 0) := by
    generalize codL.getD i [] = l at *
    simp [List.getD, hcl, hj]
  rw [h3] at h2
  simpa using h2
end Go.Proofs.YtddbboocommodaaDoor
