/-
  WHAT FITS, once bits are turned.
-/
import Derived.Test.YtbgaidcpljfkjaaCrcE
import Derived.Test.YtbgaidcpljfkjaaCrcMathB
namespace Go.Proofs.Ytbgaidcpljfkjaa
open Go.RowKit
set_option linter.unusedVariables false

theorem turn_byte (x : Int) (m : Nat) (hx : 0 ≤ x ∧ x ≤ 255) (hm : m < 8) : bits .xor .u8 x (2 ^ m % 256) = xr x (2 ^ m) := by
  have h := two_pow_range m hm
  rw [show (2 : Int) ^ m % 256 = 2 ^ m by omega]
  exact xor_u8 x _ hx h
theorem fitsB_iff (xs : List Int) (n : Nat) (hl : xs.length = n + 1) (hw : ∀ j, j < n + 1 → 0 ≤ xs.getD j 0 ∧ xs.getD j 0 ≤ 255) : fitsB xs = true ↔ reg xs = byt 0#8 255 8 := by
  have h1 : reg xs = byt (reg (xs.take n)) (xs.getD n 0).toNat 8 := by
    have := bytes_take 255#8 xs n (by omega)
    rwa [List.take_of_length_le (by omega)] at this
  have hr := hw n (by omega)
  rw [h1, byt_fits _ _ (by omega)]
  unfold fitsB sum
  rw [hl]
  simp only [Nat.add_sub_cancel]
  generalize xs.getD n 0 = v at hr ⊢
  simp
  omega
theorem fitsB_one (xs : List Int) (n i : Nat) (hl : xs.length = n + 1) (hn : n ≤ 14) (hw : ∀ j, j < n + 1 → 0 ≤ xs.getD j 0 ∧ xs.getD j 0 ≤ 255) (hf : fitsB xs = true) (hi : i < 8 * (n + 1)) : fitsB (flip xs i) = false := by
  have h0 := (fitsB_iff xs n hl hw).1 hf
  rw [Bool.eq_false_iff]
  intro h
  have h1 := (fitsB_iff (flip xs i) n (by rw [flip_length, hl]) (flip_range xs i (n + 1) hl hi hw)).1 h
  have h2 : reg (flip xs i) = reg xs ^^^ _ := bytes_flip xs 255#8 i (by omega)
  rw [h0] at h2
  rw [h1] at h2
  have h3 := congrArg (byt 0#8 255 8 ^^^ ·) h2
  simp only [← BitVec.xor_assoc, BitVec.xor_self, BitVec.zero_xor] at h3
  exact adv_ne _ (by omega) h3.symm
theorem fitsB_two (xs : List Int) (n i k : Nat) (hl : xs.length = n + 1) (hn : n ≤ 14) (hw : ∀ j, j < n + 1 → 0 ≤ xs.getD j 0 ∧ xs.getD j 0 ≤ 255) (hf : fitsB xs = true) (hi : i < 8 * (n + 1)) (hk : k < 8 * (n + 1)) : fitsB (flip (flip xs i) k) = decide (i = k) := by
  have h0 := (fitsB_iff xs n hl hw).1 hf
  have w1 := flip_range xs i (n + 1) hl hi hw
  have w2 := flip_range (flip xs i) k (n + 1) (by rw [flip_length, hl]) hk w1
  have e1 : reg (flip xs i) = reg xs ^^^ _ := bytes_flip xs 255#8 i (by omega)
  have e2 : reg (flip (flip xs i) k) = reg (flip xs i) ^^^ _ := bytes_flip (flip xs i) 255#8 k (by rw [flip_length]; omega)
  rw [e1, h0, flip_length] at e2
  have ap := adv_apart (8 * xs.length - 1 - i) (by omega) (8 * xs.length - 1 - k) (by omega)
  rw [Bool.eq_iff_iff, fitsB_iff _ n (by rw [flip_length, flip_length, hl]) w2, e2, decide_eq_true_iff]
  constructor
  · intro h
    have h3 := congrArg (byt 0#8 255 8 ^^^ ·) h
    simp only [← BitVec.xor_assoc, BitVec.xor_self, BitVec.zero_xor] at h3
    have := ap.1 h3
    omega
  · rintro rfl
    rw [BitVec.xor_assoc, ap.2 rfl, BitVec.xor_zero]
end Go.Proofs.Ytbgaidcpljfkjaa
