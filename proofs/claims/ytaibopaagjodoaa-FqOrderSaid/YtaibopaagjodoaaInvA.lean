/-
  CONTRACTS of inv.Root and of the reference's Root.
-/
import Derived.Test.YtaibopaagjodoaaNum
import Derived.Test.YtaibopaagjodoaaInvM
namespace Go.Proofs.Ytaibopaagjodoaa
open Go.ChangeShapes Go.WideShapes Go.ChangeAt Go.RowKit
set_option linter.unusedVariables false
set_option linter.unusedSimpArgs false

/-- the bit that is tried where k bits are left. -/
def bitN : Nat → Nat
  | 0 => 0
  | k + 1 => 2 ^ k
theorem bit_half (k : Nat) : bitN (k + 1) / 2 = bitN k := by
  cases k with
  | zero => rfl
  | succ k => show 2 ^ (k + 1) / 2 = 2 ^ k; rw [Nat.pow_succ]; omega
theorem bit_pos (k : Nat) : 0 < bitN (k + 1) := Nat.two_pow_pos k

set_option maxRecDepth 100000 in
set_option maxHeartbeats 4000000 in
theorem root_any (n : Nat) (w : World) (hn : n < 18446744073709551616) :
    Calls Try.prog 80 #[.int .u64 n] w fun e w' => e = .returned (.int .u64 (rootN n : Nat)) ∧ w = w' := by
  have HS := Lib.hid (root_start hn)
  go_enter Try.func80, Try.ntmps80
  go_wp2
  go_loop [3, 4] (fun r b => ∃ k x : Nat, k ≤ 32 ∧ r = .int .u64 x ∧ b = .int .u64 (bitN k : Nat) ∧ RootAt n x k) (fun _ b => (intOf b).toNat)
  case atStart => exact ⟨32, 0, by omega, rfl, rfl, HS.out⟩
  case round =>
    obtain ⟨k, x, hk, rfl, rfl, hr⟩ := hrel
    clear HS
    cases k with
    | zero =>
      have HR := Lib.hid (rootN_one (root_end hr))
      clear hr
      have hb : ((bitN 0 : Nat) : Int) = 0 := rfl
      rw [hb]
      go_wp2
      go_ret
      exact ⟨ret_int (by rw [HR.out]), rfl⟩
    | succ k =>
      have HF := Lib.hid (root_fits hr)
      have HR := Lib.hid hr
      have HB := Lib.hid (bit_half k)
      have HP := Lib.hid (bit_pos k)
      have HK := Lib.hid (show bitN (k + 1) = 2 ^ k from rfl)
      clear hr
      have HW := Lib.hid (show IntKind.u64.wrap ((x : Int) + (bitN (k + 1) : Nat)) = (x : Int) + (bitN (k + 1) : Nat) by
        rw [IntKind.wrap_u64]; have := HF.out.1; have := HK.out; omega)
      have HW2 := Lib.hid (show IntKind.u64.wrap (((x : Int) + (bitN (k + 1) : Nat)) * ((x : Int) + (bitN (k + 1) : Nat))) = (((x + bitN (k + 1)) * (x + bitN (k + 1)) : Nat) : Int) by
        rw [IntKind.wrap_u64]
        have h1 := HF.out.2
        rw [← HK.out] at h1
        have h2 : ((x : Int) + (bitN (k + 1) : Nat)) * ((x : Int) + (bitN (k + 1) : Nat)) = (((x + bitN (k + 1)) * (x + bitN (k + 1)) : Nat) : Int) := by simp
        omega)
      generalize bitN (k + 1) = b at *
      go_wp2
      · rename_i hle
        rw [HW.out, HW2.out] at hle
        go_round
        case rel =>
          refine ⟨k, x + b, by omega, by rw [HW.out]; rfl, by rw [← HB.out]; rfl, ?_⟩
          rw [HK.out] at hle ⊢
          exact root_yes HR.out (by exact_mod_cast hle)
        case measure => simp [intOf]; have := HP.out; omega
      · rename_i hle
        rw [HW.out, HW2.out] at hle
        go_round
        case rel =>
          refine ⟨k, x, by omega, rfl, by rw [← HB.out]; rfl, ?_⟩
          rw [HK.out] at hle
          exact root_no HR.out (by exact_mod_cast hle)
        case measure => simp [intOf]; have := HP.out; omega

set_option maxRecDepth 100000 in
set_option maxHeartbeats 4000000 in
theorem refroot_any (n : Nat) (w : World) (hn : n < 18446744073709551616) :
    Calls Try.prog 77 #[.int .u64 n] w fun e w' => e = .returned (.int .u64 (rootN n : Nat)) ∧ w = w' := by
  have HS := Lib.hid (root_start hn)
  go_enter Try.func77, Try.ntmps77
  go_wp2
  go_loop [3, 4] (fun r b => ∃ k x : Nat, k ≤ 32 ∧ r = .int .u64 x ∧ b = .int .i64 ((k : Int) - 1) ∧ RootAt n x k) (fun _ b => (intOf b + 1).toNat)
  case atStart => exact ⟨32, 0, by omega, rfl, rfl, HS.out⟩
  case round =>
    obtain ⟨k, x, hk, rfl, rfl, hr⟩ := hrel
    clear HS
    cases k with
    | zero =>
      have HR := Lib.hid (rootN_one (root_end hr))
      clear hr
      go_wp2
      go_ret
      exact ⟨ret_int (by rw [HR.out]), rfl⟩
    | succ k =>
      have HF := Lib.hid (root_fits hr)
      have HR := Lib.hid hr
      have hb : ((k + 1 : Nat) : Int) - 1 = (k : Int) := by omega
      rw [hb]
      clear hr
      have HP := Lib.hid (show IntKind.u64.wrap (2 ^ k) = ((2 ^ k : Nat) : Int) by
        have h1 := HF.out.1
        have h2 : ((2 ^ k : Nat) : Int) = (2 : Int) ^ k := by simp
        rw [← h2, IntKind.wrap_u64]
        generalize 2 ^ k = b at *
        omega)
      have HW := Lib.hid (show IntKind.u64.wrap ((x : Int) + ((2 ^ k : Nat) : Int)) = ((x + 2 ^ k : Nat) : Int) by
        have h1 := HF.out.1
        rw [IntKind.wrap_u64]
        generalize 2 ^ k = b at *
        omega)
      have HW2 := Lib.hid (show IntKind.u64.wrap (((x + 2 ^ k : Nat) : Int) * ((x + 2 ^ k : Nat) : Int)) = (((x + 2 ^ k) * (x + 2 ^ k) : Nat) : Int) by
        rw [IntKind.wrap_u64]
        have h1 := HF.out.2
        rw [← Int.natCast_mul]
        generalize (x + 2 ^ k) * (x + 2 ^ k) = b at *
        omega)
      go_wp2
      · rename_i hle
        rw [HP.out, HW.out, HW2.out] at hle
        go_round
        case rel =>
          refine ⟨k, x + 2 ^ k, by omega, by rw [HP.out, HW.out], rfl, ?_⟩
          exact root_yes HR.out (by exact_mod_cast hle)
        case measure => simp [intOf]
      · rename_i hle
        rw [HP.out, HW.out, HW2.out] at hle
        go_round
        case rel =>
          exact ⟨k, x, by omega, rfl, rfl, root_no HR.out (by exact_mod_cast hle)⟩
        case measure => simp [intOf]
end Go.Proofs.Ytaibopaagjodoaa
