/-
  CONTRACTS of of the chapter's examples.
-/
import Derived.Test.YtlkoleannlpflaaDoorBuildF
import Derived.Deep.RegionHeld3
namespace Go.Proofs.YtlkoleannlpflaaDoor
open Go.ChangeShapes Go.WideShapes Go.ChangeAt Go.RowKit Go.Deep
set_option linter.unusedVariables false
set_option linter.unusedSimpArgs false

theorem ex_none : chV ⟨1, 4, 1, 20, 0⟩ ⟨4, 9000, 54840⟩ [] = .tuple #[.int .i64 0, .bool false] := by
  have h : chooseB ⟨1, 4, 1, 20, 0⟩ ⟨4, 9000, 54840⟩ [] = (0, false) := by decide +kernel
  unfold chV; rw [h]; rfl
theorem ex_two : chV ⟨1, 4, 1, 20, 0⟩ ⟨4, 9000, 54840⟩ [100, 100] = .tuple #[.int .i64 2, .bool true] := by
  have h : chooseB ⟨1, 4, 1, 20, 0⟩ ⟨4, 9000, 54840⟩ [100, 100] = (2, true) := by decide +kernel
  unfold chV; rw [h]; rfl
theorem row_two {w : World} {g : Nat} {t : TypeId} {fr : Nat × Nat} (h : w.heap[g]? = some (.cells #[.int .i64 100, .int .i64 100] t fr)) : RowB .i64 w (some ⟨g, 0, none⟩) 2 [100, 100] := by
  refine ⟨rfl, by unfold maxLen; omega, fun i hi => ?_, fun _ => ⟨g, 0, rfl, fun i hi => ?_⟩⟩
  · rcases (by omega : i = 0 ∨ i = 1) with rfl | rfl <;> decide
  · rcases (by omega : i = 0 ∨ i = 1) with rfl | rfl <;> (simp only [World.cell?, h]; rfl)
set_option maxRecDepth 100000 in
set_option maxHeartbeats 8000000 in
theorem first_any (w : World) (hT : Tab w) :
    Calls Tryd.prog 7 #[] w fun e w' => e = .returned (.bool true) ∧ Below w.heap.size w w' := by
  have HT := Shut.mk hT
  clear hT
  have HB := Shut.mk ((Below.refl w.heap.size w).alloc (Nat.le_refl _) (.cells (Rt.arr ⟨1, 4, 1, 20, 0⟩) 23))
  have HG := Shut.mk (heap_alloc_last w (.cells (Rt.arr ⟨1, 4, 1, 20, 0⟩) 23))
  go_enter Tryd.func7, Tryd.ntmps7
  go_wp2_with (fail)
  generalize World.alloc w _ = w2 at *
  refine (choose_any ⟨1, 4, 1, 20, 0⟩ ⟨4, 9000, 54840⟩ none 0 0 [] w2 (HT.out.below HB.out) RowB.nil (Nat.le_refl _) (by omega)).mono ?_
  rintro e w3 ⟨rfl, hB⟩
  rw [ex_none]
  have T0 := Shut.mk (HB.out.trans (hB.mono HB.out.size))
  have T1 := Shut.mk ((hB.block _ (lt_blk HG.out)).trans HG.out)
  clear hB HB HG
  have HB := T0
  have HG := T1
  clear T0 T1
  have hx0 := rt_cell (r := Rt.mk 1 4 1 20 0) HG.out 0
  have hx1 := rt_cell (r := Rt.mk 1 4 1 20 0) HG.out 1
  have hx2 := rt_cell (r := Rt.mk 1 4 1 20 0) HG.out 2
  have hx3 := rt_cell (r := Rt.mk 1 4 1 20 0) HG.out 3
  have hx4 := rt_cell (r := Rt.mk 1 4 1 20 0) HG.out 4
  dsimp only [Rt.arr] at hx0 hx1 hx2 hx3 hx4
  simp only [List.getElem?_toArray, List.getElem?_cons_zero, List.getElem?_cons_succ] at hx0 hx1 hx2 hx3 hx4
  go_wp2_with (fail)
  clear hx0 hx1 hx2 hx3 hx4
  have HB4 := Shut.mk (HB.out.alloc HB.out.size (.cells #[.int .i64 100, .int .i64 100] 3))
  have HL4 := Shut.mk (heap_alloc_last w3 (.cells #[.int .i64 100, .int .i64 100] 3))
  generalize World.alloc w3 _ = w4 at *
  refine (choose_any ⟨1, 4, 1, 20, 0⟩ ⟨4, 9000, 54840⟩ (some ⟨w3.heap.size, 0, none⟩) 2 2 [100, 100] w4 (HT.out.below HB4.out) (row_two HL4.out) (Nat.le_refl _) (by omega)).mono ?_
  rintro e w5 ⟨rfl, hB⟩
  rw [ex_two]
  have HB5 := Shut.mk (HB4.out.trans (hB.mono HB4.out.size))
  clear hB HB HG HB4 HL4
  go_wp2_with (fail)
  go_ret
  exact ⟨rfl, HB5.out⟩
end Go.Proofs.YtlkoleannlpflaaDoor
