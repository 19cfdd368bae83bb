/-
  The reference's Bytes calls, each said in one.
-/
import Derived.Test.YtjgingfcfmpfaaaDoorActU
import Derived.Test.YtjgingfcfmpfaaaDoorActL
namespace Go.Proofs.YtjgingfcfmpfaaaDoor
open Go.ChangeShapes Go.WideShapes Go.ChangeAt Go.RowKit
set_option linter.unusedVariables false
set_option linter.unusedSimpArgs false

theorem refAdd_all (q : Adf) (w : World) (ht : q.t.wf) (hf : q.f.wf) (hb : q.b.wf) :
    Calls Tryd.prog 10 #[q.val] w fun e w' => ∃ A n c, e = .returned (.tuple #[.slice A n c, .int .i64 (codeB (okAdd q) : Nat)]) ∧ RowB .u8 w' A n (outB (okAdd q) (encAdd q)) ∧ n ≤ c ∧ Below w.heap.size w w' := by
  cases hok : okAdd q
  · refine (refAdd_no q w hok).mono ?_
    rintro e w' ⟨rfl, hB⟩
    exact ⟨none, 0, 0, rfl, RowB.nil, Nat.le_refl _, hB⟩
  · refine (refAdd_yes q w hok).mono ?_
    rintro e w' ⟨g, cap, rfl, hO, hB⟩
    exact ⟨_, _, _, rfl, hO.row8 (all_wf (encAdd_len q) (encAdd_mem ht hf hb hok)), hO.cap_le, hB⟩
theorem refDel_all (q : Dlf) (w : World) (ht : q.t.wf) (hf : q.f.wf) (hb : q.b.wf) :
    Calls Tryd.prog 11 #[q.val] w fun e w' => ∃ A n c, e = .returned (.tuple #[.slice A n c, .int .i64 (codeB (okDel q) : Nat)]) ∧ RowB .u8 w' A n (outB (okDel q) (encDel q)) ∧ n ≤ c ∧ Below w.heap.size w w' := by
  cases hok : okDel q
  · refine (refDel_no q w hok).mono ?_
    rintro e w' ⟨rfl, hB⟩
    exact ⟨none, 0, 0, rfl, RowB.nil, Nat.le_refl _, hB⟩
  · refine (refDel_yes q w hok).mono ?_
    rintro e w' ⟨g, cap, rfl, hO, hB⟩
    exact ⟨_, _, _, rfl, hO.row8 (all_wf (encDel_len q) (encDel_mem ht hf hb hok)), hO.cap_le, hB⟩
end Go.Proofs.YtjgingfcfmpfaaaDoor
