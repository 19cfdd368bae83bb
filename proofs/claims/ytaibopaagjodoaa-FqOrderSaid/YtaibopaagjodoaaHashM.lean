/-
  MATHS OF A MIX OF 32 BITS: it is one-to-one. No program is named.
-/
import Derived.Test.YtaibopaagjodoaaNum
namespace Go.Proofs.Ytaibopaagjodoaa
open Go.ChangeShapes Go.WideShapes Go.ChangeAt Go.RowKit
set_option linter.unusedVariables false
set_option linter.unusedSimpArgs false

/-- 32 bits as a number, closed to the walk. -/
def uv (a : BitVec 32) : Int := (a.toNat : Int)
theorem uv_lo (a : BitVec 32) : 0 ≤ uv a := Int.natCast_nonneg _
theorem uv_hi (a : BitVec 32) : uv a ≤ 4294967295 := by have := a.isLt; unfold uv; omega
theorem uv_inj {a b : BitVec 32} (h : uv a = uv b) : a = b := by
  unfold uv at h
  exact BitVec.eq_of_toNat_eq (by exact_mod_cast h)
theorem uv_of {v : Int} (h0 : 0 ≤ v) (h1 : v ≤ 4294967295) : ∃ a : BitVec 32, uv a = v := by
  obtain ⟨n, rfl⟩ := Int.eq_ofNat_of_zero_le h0
  refine ⟨BitVec.ofNat 32 n, ?_⟩
  unfold uv
  rw [BitVec.toNat_ofNat]
  omega
def fold16 (x : BitVec 32) : BitVec 32 := x ^^^ (x >>> 16)
def mixB (f s : BitVec 32) : BitVec 32 := fold16 (fold16 (fold16 (f ^^^ s) * 73244475#32) * 73244475#32)
theorem fold_inv (x : BitVec 32) : fold16 (fold16 x) = x := by
  unfold fold16
  apply BitVec.eq_of_getLsbD_eq
  intro i hi
  simp only [BitVec.getLsbD_xor, BitVec.getLsbD_ushiftRight]
  have h : x.getLsbD (16 + (16 + i)) = false := BitVec.getLsbD_of_ge _ _ (by omega)
  rw [h]
  cases x.getLsbD i <;> cases x.getLsbD (16 + i) <;> rfl
theorem fold_inj {x y : BitVec 32} (h : fold16 x = fold16 y) : x = y := by
  have := congrArg fold16 h
  rwa [fold_inv, fold_inv] at this
theorem mul_inj {x y : BitVec 32} (h : x * 73244475#32 = y * 73244475#32) : x = y := by
  have h1 := congrArg (· * 295559667#32) h
  simp only [BitVec.mul_assoc] at h1
  rw [show 73244475#32 * 295559667#32 = 1#32 by decide, BitVec.mul_one, BitVec.mul_one] at h1
  exact h1
theorem mix_comm (f s : BitVec 32) : mixB f s = mixB s f := by unfold mixB; rw [BitVec.xor_comm f s]
theorem mix_left {a b s : BitVec 32} (h : mixB a s = mixB b s) : a = b := by
  unfold mixB at h
  have h1 := fold_inj (mul_inj (fold_inj (mul_inj (fold_inj h))))
  have := congrArg (· ^^^ s) h1
  simpa [BitVec.xor_assoc] using this
theorem mix_right {a b s : BitVec 32} (h : mixB s a = mixB s b) : a = b := by
  rw [mix_comm s a, mix_comm s b] at h
  exact mix_left h
theorem mix_self (a : BitVec 32) : mixB a a = 0#32 := by
  unfold mixB
  rw [BitVec.xor_self]
  decide

/-! ### as the walk spells it -/
theorem ofInt_uv (a : BitVec 32) : BitVec.ofInt 32 (uv a) = a := by
  unfold uv
  apply BitVec.eq_of_toNat_eq
  rw [BitVec.toNat_ofInt]
  have := a.isLt
  omega
theorem wrap_uv (a : BitVec 32) : IntKind.u32.wrap (uv a) = uv a := by
  have h1 := uv_lo a
  have h2 := uv_hi a
  exact IntWalk.u32_in _ ⟨by omega, by omega⟩
theorem xor_uv (a b : BitVec 32) : bits .xor .u32 (uv a) (uv b) = uv (a ^^^ b) := by
  show IntKind.u32.wrap ((BitVec.ofInt 32 (uv a) ^^^ BitVec.ofInt 32 (uv b)).toNat : Int) = _
  rw [ofInt_uv, ofInt_uv]
  exact wrap_uv (a ^^^ b)
theorem shr_uv (a : BitVec 32) : uv a / (65536 : Int) = uv (a >>> 16) := by
  unfold uv
  rw [BitVec.toNat_ushiftRight, Nat.shiftRight_eq_div_pow]
  omega
theorem mul_uv (a : BitVec 32) : IntKind.u32.wrap (uv a * 73244475) = uv (a * 73244475#32) := by
  rw [IntKind.wrap_u32]
  unfold uv
  rw [BitVec.toNat_mul]
  show (a.toNat : Int) * 73244475 % 4294967296 = ((a.toNat * 73244475 % 2 ^ 32 : Nat) : Int)
  omega
end Go.Proofs.Ytaibopaagjodoaa
