/-
  OUT OF THE ROW's CONDITION: a library's table that stands ahead of the sentinels; the rest.
-/
import Derived.Test.YtlbfioknkagboaaDoorLaidP
import Derived.Test.YtlbfioknkagboaaDoorSeqK
import Derived.Lib.LaidTab
namespace Go.Proofs.YtlbfioknkagboaaDoor
open Go.ChangeShapes Go.WideShapes Go.ChangeAt Go.RowKit
set_option linter.unusedVariables false

theorem laidMet_tail {P : Program} {name : String} {d : DataW Unit} {L : List (String × DataW Unit)} {w : World} (h : laidMet P ((name, d) :: L) w) : laidMet P L w := by
  obtain ⟨ps, ⟨g, t, cs, fuel, p, q, hg, ht, hvar, htr, hq, rfl⟩, hn, hrows⟩ := h
  exact ⟨q, hq, (List.nodup_append.1 hn).2.1, fun b off hm => hrows b off (List.mem_append_right _ hm)⟩
def tabI : List Int := Lib.deBruijn64tab.map fun n : Nat => (n : Int)
theorem tab64_of_laid {W : World} {L : List (String × DataW Unit)} (h : laidMet Tryd.prog (("math/bits.deBruijn64tab", Lib.tabData .u8 tabI) :: L) W) : Tab64 W := by
  have hA := Lib.tabIs_of_head (g := 5) (t := 113) (e := 5) (n := 64) (by kernel_rfl) (by kernel_rfl) Tryd.underlying113 Tryd.underlying5 (by kernel_rfl) (by kernel_rfl) h
  intro j hj
  have h1 := hA.cell (g := 5) (by kernel_rfl) j (by show j < 64; exact hj)
  have h2 : ∀ j, j < 64 → tabI.getD j 0 = ((Lib.deBruijn64tab.getD j 0 : Nat) : Int) := by decide
  rw [h2 j hj] at h1
  exact h1
end Go.Proofs.YtlbfioknkagboaaDoor
