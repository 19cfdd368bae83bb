/-
  CONTRACT of muezzinworld.Number.
-/
import Derived.Test.YtaiegmnjoffloaaDoorRows
import Derived.WalkKit
import Derived.ProofKit
import Derived.OpenShut
import Derived.BigQuiet
import Derived.Deep.QuietTactic
import Derived.Outline
import Derived.Lib.Hide
namespace Go.Proofs.YtaiegmnjoffloaaDoor
open Go.ChangeShapes Go.WideShapes Go.ChangeAt Go.RowKit
set_option linter.unusedVariables false

theorem ret_int {k : IntKind} {a b : Int} (h : a = b) : Ending.returned (.int k a) = .returned (.int k b) := by rw [h]
theorem ret_bool {a b : Bool} (h : a = b) : Ending.returned (.bool a) = .returned (.bool b) := by rw [h]

theorem tmod_low (n b : Int) (h0 : 0 < b) (h1 : b < 1099511627776) (h : n.tmod b < 0) : wrap64 (n.tmod b + b) = n % b := by
  have e := Int.tmod_eq_emod (a := n) (b := b)
  have a1 := Int.emod_nonneg n (show b ≠ 0 by omega)
  have a2 := Int.emod_lt_of_pos n h0
  unfold wrap64
  split at e
  · omega
  · have : (b.natAbs : Int) = b := by omega
    omega

theorem tmod_high (n b : Int) (h0 : 0 < b) (h : 0 ≤ n.tmod b) : n.tmod b = n % b := by
  have e := Int.tmod_eq_emod (a := n) (b := b)
  have a2 := Int.emod_lt_of_pos n h0
  split at e
  · omega
  · have : (b.natAbs : Int) = b := by omega
    omega

def nmod (n b : Int) : Int := n % b
theorem nmod_lo (n b : Int) (h : 0 < b) : 0 ≤ nmod n b := Int.emod_nonneg _ (by omega)
theorem nmod_hi (n b : Int) (h : 0 < b) : nmod n b < b := Int.emod_lt_of_pos _ h
/-- Number(n, below): n modulo a bound that is above 0 (and below 2^40). -/
theorem number_any (n below : Int) (w : World) (hn : (Lit.int .i64 n).wf = true) (h0 : 0 < below) (h1 : below < 1099511627776) :
    Calls Tryd.prog 30 #[.int .i64 n, .int .i64 below] w fun e w' => e = .returned (.int .i64 (nmod n below)) ∧ w = w' := by
  have hn' : -9223372036854775808 ≤ n ∧ n ≤ 9223372036854775807 := by simpa [Lit.wf, IntKind.min, IntKind.max, IntKind.signed, IntKind.bits] using hn
  by_cases h : n.tmod below < 0
  · have H := Lib.hid (tmod_low n below h0 h1 h)
    go_enter Tryd.func30, Tryd.ntmps30
    go_wp2
    go_ret
    exact ⟨ret_int H.out, rfl⟩
  · have H := Lib.hid (tmod_high n below h0 (by omega))
    go_enter Tryd.func30, Tryd.ntmps30
    go_wp2
    go_ret
    exact ⟨ret_int H.out, rfl⟩

end Go.Proofs.YtaiegmnjoffloaaDoor
