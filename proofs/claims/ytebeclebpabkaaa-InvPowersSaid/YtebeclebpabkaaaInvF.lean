/-
  FOR THE LAWS OF INV: the chapter's examples.
-/
import Derived.Test.YtebeclebpabkaaaInvE
namespace Go.Proofs.Ytebeclebpabkaaa
open Go.ChangeShapes Go.WideShapes Go.ChangeAt Go.RowKit
set_option linter.unusedVariables false
set_option linter.unusedSimpArgs false

theorem wf_u64 {n : Int} (h : (Lit.int .u64 n).wf = true) : 0 ≤ n ∧ n < 18446744073709551616 := by
  have h' : IntKind.u64.min ≤ n ∧ n ≤ IntKind.u64.max := by simpa [Lit.wf] using h
  have a : IntKind.u64.min = 0 := by decide
  have b : IntKind.u64.max = 18446744073709551615 := by decide
  rw [a, b] at h'
  omega
theorem wf_u32 {n : Int} (h : (Lit.int .u32 n).wf = true) : 0 ≤ n ∧ n < 4294967296 := by
  have h' : IntKind.u32.min ≤ n ∧ n ≤ IntKind.u32.max := by simpa [Lit.wf] using h
  have a : IntKind.u32.min = 0 := by decide
  have b : IntKind.u32.max = 4294967295 := by decide
  rw [a, b] at h'
  omega
theorem wf_i64 {n : Int} (h : (Lit.int .i64 n).wf = true) : -9223372036854775808 ≤ n ∧ n ≤ 9223372036854775807 := by
  have h' : IntKind.i64.min ≤ n ∧ n ≤ IntKind.i64.max := by simpa [Lit.wf] using h
  have a : IntKind.i64.min = -9223372036854775808 := by decide
  have b : IntKind.i64.max = 9223372036854775807 := by decide
  rw [a, b] at h'
  omega
theorem inv_4 : invN 4 = 2147483648 := invN_one ⟨by decide, by decide⟩
theorem inv_0 : invN 0 = 4294967296 := rfl
theorem root_99 : rootN 99 = 9 := rootN_one ⟨by decide, by decide⟩
set_option maxRecDepth 100000 in
theorem first_any (w : World) :
    Calls Try.prog 7 #[] w fun e w' => e = .returned (.bool true) ∧ w = w' := by
  go_enter Try.func7, Try.ntmps7
  go_wp2_with (fail)
  refine (inv_any 4 _ (by decide)).mono ?_
  rintro e w1 ⟨rfl, rfl⟩
  rw [inv_4]
  go_wp2_with (fail)
  refine (root_any 99 _ (by decide)).mono ?_
  rintro e w1 ⟨rfl, rfl⟩
  rw [root_99]
  go_wp2
  go_ret
  exact ⟨rfl, rfl⟩
end Go.Proofs.Ytebeclebpabkaaa
