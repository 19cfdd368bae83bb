/-
  The Bytes calls, each said in one; the contract of muezzinlaw5.first.
-/
import Derived.Test.YtjgingfcfmpfaaaDoorActH
namespace Go.Proofs.YtjgingfcfmpfaaaDoor
open Go.ChangeShapes Go.WideShapes Go.ChangeAt Go.RowKit
set_option linter.unusedVariables false
set_option linter.unusedSimpArgs false

theorem add_all (q : Adf) (E : Nat → Addr) (w : World) (ht : q.t.wf) (hf : q.f.wf) (hb : q.b.wf) (hS : Sent w E S4) :
    Calls Tryd.prog 8 #[q.val] w fun e w' => ∃ A n c, e = .returned (.tuple #[.slice A n c, errV E (codeB (okAdd q))]) ∧ RowB .u8 w' A n (outB (okAdd q) (encAdd q)) ∧ n ≤ c ∧ Below w.heap.size w w' := by
  cases hok : okAdd q
  · refine (add_no q E w hok hS).mono ?_
    rintro e w' ⟨rfl, hB⟩
    exact ⟨none, 0, 0, rfl, RowB.nil, Nat.le_refl _, hB⟩
  · refine (add_yes q w hok).mono ?_
    rintro e w' ⟨g, cap, rfl, hO, hB⟩
    exact ⟨_, _, _, rfl, hO.row8 (all_wf (encAdd_len q) (encAdd_mem ht hf hb hok)), hO.cap_le, hB⟩
theorem del_all (q : Dlf) (E : Nat → Addr) (w : World) (ht : q.t.wf) (hf : q.f.wf) (hb : q.b.wf) (hS : Sent w E S4) :
    Calls Tryd.prog 9 #[q.val] w fun e w' => ∃ A n c, e = .returned (.tuple #[.slice A n c, errV E (codeB (okDel q))]) ∧ RowB .u8 w' A n (outB (okDel q) (encDel q)) ∧ n ≤ c ∧ Below w.heap.size w w' := by
  cases hok : okDel q
  · refine (del_no q E w hok hS).mono ?_
    rintro e w' ⟨rfl, hB⟩
    exact ⟨none, 0, 0, rfl, RowB.nil, Nat.le_refl _, hB⟩
  · refine (del_yes q w hok).mono ?_
    rintro e w' ⟨g, cap, rfl, hO, hB⟩
    exact ⟨_, _, _, rfl, hO.row8 (all_wf (encDel_len q) (encDel_mem ht hf hb hok)), hO.cap_le, hB⟩

theorem okAdd_zero : okAdd Go.Proofs.YtjgingfcfmpfaaaDoor.a0 = true := by decide
theorem okDel_zero : okDel Go.Proofs.YtjgingfcfmpfaaaDoor.d0 = true := by decide
set_option maxRecDepth 100000 in
set_option maxHeartbeats 8000000 in
theorem first_any (w : World) :
    Calls Tryd.prog 7 #[] w fun e w' => e = .returned (.bool true) ∧ Below w.heap.size w w' := by
  have HA := Lib.hid (add_yes Go.Proofs.YtjgingfcfmpfaaaDoor.a0 w okAdd_zero)
  go_enter Tryd.func7, Tryd.ntmps7
  go_wp2_with (fail)
  refine HA.out.mono ?_
  rintro e w1 ⟨g, cap, rfl, -, hB⟩
  have HB := Lib.hid hB
  clear hB HA
  go_wp2_with (fail)
  refine (del_yes Go.Proofs.YtjgingfcfmpfaaaDoor.d0 w1 okDel_zero).mono ?_
  rintro e w2 ⟨g2, cap2, rfl, -, hB⟩
  have HB2 := Lib.hid (HB.out.trans (hB.mono HB.out.size))
  clear hB
  go_wp2
  go_ret
  exact ⟨rfl, HB2.out⟩
end Go.Proofs.YtjgingfcfmpfaaaDoor
