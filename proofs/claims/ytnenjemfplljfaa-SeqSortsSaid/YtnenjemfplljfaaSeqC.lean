/-
  CONTRACTS of package seq's calls that only compute (round, Add, Dist, Ahead), of muezzinworld.Number and of muezzinlaw1.first; for all integers.
-/
import Derived.Test.YtnenjemfplljfaaRows
import Derived.WalkKit
import Derived.ProofKit
import Derived.OpenShut
import Derived.BigQuiet
import Derived.Deep.QuietTactic
import Derived.Outline
import Derived.Lib.Hide
namespace Go.Proofs.Ytnenjemfplljfaa
open Go.ChangeShapes Go.WideShapes Go.ChangeAt Go.RowKit
set_option linter.unusedVariables false

theorem i64_and4095 (n : Int) : bits .and .i64 n 4095 = n % 4096 := by
  have h : (BitVec.ofInt 64 4095).toNat = 2 ^ 12 - 1 := by decide
  have key : (BitVec.ofInt 64 n &&& BitVec.ofInt 64 4095).toNat = (n % ((2 ^ 64 : Nat) : Int)).toNat % 2 ^ 12 := by
    rw [BitVec.toNat_and, BitVec.toNat_ofInt, h, Nat.and_two_pow_sub_one_eq_mod]
  show IntKind.i64.wrap ((BitVec.ofInt 64 n &&& BitVec.ofInt 64 4095).toNat : Nat) = n % 4096
  rw [key, IntKind.wrap_i64]
  omega

theorem wrap_mod (n : Int) : wrap64 n % 4096 = n % 4096 := by
  unfold wrap64; omega

/-- a number modulo 4096, closed to the walk. -/
def rd (n : Int) : Int := n % 4096
theorem rd_lo (n : Int) : 0 ≤ rd n := by unfold rd; omega
theorem rd_hi (n : Int) : rd n ≤ 4095 := by unfold rd; omega

theorem ret_int {k : IntKind} {a b : Int} (h : a = b) : Ending.returned (.int k a) = .returned (.int k b) := by rw [h]
theorem ret_bool {a b : Bool} (h : a = b) : Ending.returned (.bool a) = .returned (.bool b) := by rw [h]

theorem round_any (n : Int) (w : World) :
    Calls Try.prog 13 #[.int .i64 n] w fun e w' => e = .returned (.int .i64 (n % 4096)) ∧ w = w' := by
  have hb := i64_and4095 n
  go_enter Try.func13, Try.ntmps13
  go_wp2
  go_ret
  exact ⟨rfl, rfl⟩

theorem add_any (a n : Int) (w : World) :
    Calls Try.prog 9 #[.int .i64 a, .int .i64 n] w fun e w' => e = .returned (.int .i64 (rd (a + n))) ∧ w = w' := by
  have H := Lib.hid (wrap_mod (a + n))
  go_enter Try.func9, Try.ntmps9
  go_wp2_with (go_at_call 13; refine (round_any _ _).mono ?_; rintro e w' ⟨rfl, rfl⟩)
  go_ret
  exact ⟨ret_int H.out, rfl⟩

theorem dist_any (a b : Int) (w : World) :
    Calls Try.prog 8 #[.int .i64 a, .int .i64 b] w fun e w' => e = .returned (.int .i64 (rd (b - a))) ∧ w = w' := by
  have H := Lib.hid (wrap_mod (b - a))
  go_enter Try.func8, Try.ntmps8
  go_wp2_with (go_at_call 13; refine (round_any _ _).mono ?_; rintro e w' ⟨rfl, rfl⟩)
  go_ret
  exact ⟨ret_int H.out, rfl⟩

/-- Ahead: one contract for each answer. -/
def aheadB (a b : Int) : Bool := decide (0 < rd (b - a) ∧ rd (b - a) < 2048)

theorem ahead_any (a b : Int) (w : World) :
    Calls Try.prog 10 #[.int .i64 a, .int .i64 b] w fun e w' => e = .returned (.bool (aheadB a b)) ∧ w = w' := by
  have H := Lib.hid (show aheadB a b = decide (0 < rd (b - a) ∧ rd (b - a) < 2048) from rfl)
  by_cases h : 0 < rd (b - a)
  · go_enter Try.func10, Try.ntmps10
    go_wp2_with (go_at_call 8; refine (dist_any _ _ _).mono ?_; rintro e w' ⟨rfl, rfl⟩)
    go_ret
    exact ⟨ret_bool (by rw [H.out]; simp [h]), rfl⟩
  · go_enter Try.func10, Try.ntmps10
    go_wp2_with (go_at_call 8; refine (dist_any _ _ _).mono ?_; rintro e w' ⟨rfl, rfl⟩)
    go_ret
    exact ⟨ret_bool (by rw [H.out]; simp; omega), rfl⟩

theorem tmod_low (n b : Int) (h0 : 0 < b) (h1 : b < 1099511627776) (h : n.tmod b < 0) : wrap64 (n.tmod b + b) = n % b := by
  have e := Int.tmod_eq_emod (a := n) (b := b)
  have a1 := Int.emod_nonneg n (show b ≠ 0 by omega)
  have a2 := Int.emod_lt_of_pos n h0
  unfold wrap64
  split at e
  · omega
  · have : (b.natAbs : Int) = b := by omega
    omega

theorem tmod_high (n b : Int) (h0 : 0 < b) (h : 0 ≤ n.tmod b) : n.tmod b = n % b := by
  have e := Int.tmod_eq_emod (a := n) (b := b)
  have a2 := Int.emod_lt_of_pos n h0
  split at e
  · omega
  · have : (b.natAbs : Int) = b := by omega
    omega

/-- Number(n, below): n modulo a bound that is above 0 (and below 2^40). -/
theorem number_any (n below : Int) (w : World) (hn : (Lit.int .i64 n).wf = true) (h0 : 0 < below) (h1 : below < 1099511627776) :
    Calls Try.prog 7 #[.int .i64 n, .int .i64 below] w fun e w' => e = .returned (.int .i64 (n % below)) ∧ w = w' := by
  have hn' : -9223372036854775808 ≤ n ∧ n ≤ 9223372036854775807 := by simpa [Lit.wf, IntKind.min, IntKind.max, IntKind.signed, IntKind.bits] using hn
  by_cases h : n.tmod below < 0
  · have H := Lib.hid (tmod_low n below h0 h1 h)
    go_enter Try.func7, Try.ntmps7
    go_wp2
    go_ret
    exact ⟨ret_int H.out, rfl⟩
  · have H := Lib.hid (tmod_high n below h0 (by omega))
    go_enter Try.func7, Try.ntmps7
    go_wp2
    go_ret
    exact ⟨ret_int H.out, rfl⟩

theorem number4_any (n : Int) (w : World) (hn : (Lit.int .i64 n).wf = true) :
    Calls Try.prog 7 #[.int .i64 n, .int .i64 4096] w fun e w' => e = .returned (.int .i64 (rd n)) ∧ w = w' :=
  number_any n 4096 w hn (by omega) (by omega)

theorem first_any (w : World) :
    Calls Try.prog 6 #[] w fun e w' => e = .returned (.bool true) ∧ w = w' := by
  go_enter Try.func6, Try.ntmps6
  have e1 : (rd (4095 + 1) == 0) = true := by decide
  have e2 : (rd (4000 + 95) == 4095) = true := by decide
  go_wp2_with (go_at_call 9; refine (add_any _ _ _).mono ?_; rintro e w' ⟨rfl, rfl⟩)
  go_ret
  exact ⟨rfl, rfl⟩
end Go.Proofs.Ytnenjemfplljfaa
