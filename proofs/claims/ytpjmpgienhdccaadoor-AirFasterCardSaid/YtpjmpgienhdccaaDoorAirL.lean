/-
  FOR THE LAWS OF AIR: the chapter's example; an element of All's row.
-/
import Derived.Test.YtpjmpgienhdccaaDoorAirB
import Derived.Test.YtpjmpgienhdccaaDoorRateH
import Derived.Test.YtpjmpgienhdccaaDoorOpenR
namespace Go.Proofs.YtpjmpgienhdccaaDoor
open Go.ChangeShapes Go.WideShapes Go.ChangeAt Go.RowKit
set_option linter.unusedVariables false
set_option linter.unusedSimpArgs false

theorem ppdu_240 : ppduR ⟨1, 0, 1, 20, 0⟩ 0 = 240 := by decide +kernel
set_option maxRecDepth 100000 in
set_option maxHeartbeats 8000000 in
theorem first_any (w : World) (hT : Tab w) :
    Calls Tryd.prog 8 #[] w fun e w' => e = .returned (.bool true) ∧ Below w.heap.size w w' := by
  have HT := Lib.hid hT
  clear hT
  go_enter Tryd.func8, Tryd.ntmps8
  go_wp2_with (fail)
  refine (ppdu_any ⟨1, 0, 1, 20, 0⟩ 0 w HT.out).mono ?_
  rintro e w3 ⟨rfl, hB⟩
  rw [ppdu_240]
  have HB := Lib.hid hB
  clear hB
  go_wp2
  go_ret
  exact ⟨rfl, HB.out⟩
theorem all_pos {m : Int} (h1 : 1 ≤ m) (h4 : m ≤ 4) : 0 < (allR m).length := by
  rcases (by omega : m = 1 ∨ m = 2 ∨ m = 3 ∨ m = 4) with rfl | rfl | rfl | rfl
  · rw [all_1]; decide
  · rw [all_2]; decide
  · rw [all_3]; decide
  · rw [all_4]; decide
theorem row_at {w : World} {b off n : Nat} {l : List Rt} (h : RowR w (some ⟨b, off, none⟩) n l) (i : Nat) (hi : i < n) : w.rangeAt b (off + i * 5) (l.getD i d0).cells := by
  obtain ⟨b', off', e, hc⟩ := h.el i hi
  cases e
  exact hc
end Go.Proofs.YtpjmpgienhdccaaDoor
