/-
  MATHS OF ROOTS, of one over a root, of a next time. No program is named.
-/
import Derived.Test.YtlbfioknkagboaaDoorRows
namespace Go.Proofs.YtlbfioknkagboaaDoor
set_option linter.unusedVariables false
set_option linter.unusedSimpArgs false

theorem sq_le {a b : Nat} (h : a ≤ b) : a * a ≤ b * b := Nat.mul_le_mul h h
theorem sq_lt {a b : Nat} (h : a < b) : a * a < b * b := Nat.mul_lt_mul'' h h
theorem le_sq {a b : Nat} (h : a * a ≤ b * b) : a ≤ b := by
  rcases Nat.lt_or_ge b a with h1 | h1
  · have := sq_lt h1; omega
  · exact h1
theorem lt_sq {a b : Nat} (h : a * a < b * b) : a < b := by
  rcases Nat.lt_or_ge a b with h1 | h1
  · exact h1
  · have := sq_le h1; omega
/-- r is the root of n, down. -/
def IsRoot (n r : Nat) : Prop := r * r ≤ n ∧ n < (r + 1) * (r + 1)
theorem root_one {n r s : Nat} (h1 : IsRoot n r) (h2 : IsRoot n s) : r = s := by
  have a := lt_sq (Nat.lt_of_le_of_lt h1.1 h2.2)
  have b := lt_sq (Nat.lt_of_le_of_lt h2.1 h1.2)
  omega
theorem root_hi {n r : Nat} (h : IsRoot n r) (hn : n < 18446744073709551616) : r ≤ 4294967295 := by
  have : r * r < 4294967296 * 4294967296 := Nat.lt_of_le_of_lt h.1 hn
  have := lt_sq this
  omega
theorem root_sq (s : Nat) : IsRoot (s * s) s := ⟨Nat.le_refl _, sq_lt (by omega)⟩
theorem root_mono {m n r s : Nat} (h1 : IsRoot m r) (h2 : IsRoot n s) (h : m ≤ n) : r ≤ s := by
  have := lt_sq (Nat.lt_of_le_of_lt (Nat.le_trans h1.1 h) h2.2)
  omega
/-- bit by bit: the state behind the bits from k on; its steps; its end. -/
def RootAt (n x k : Nat) : Prop := x * x ≤ n ∧ n < (x + 2 ^ k) * (x + 2 ^ k) ∧ x + 2 ^ k ≤ 4294967296
theorem root_start {n : Nat} (h : n < 18446744073709551616) : RootAt n 0 32 := ⟨by omega, by rw [Nat.zero_add]; exact h, by decide⟩
theorem root_yes {n x k : Nat} (h : RootAt n x (k + 1)) (hy : (x + 2 ^ k) * (x + 2 ^ k) ≤ n) : RootAt n (x + 2 ^ k) k := by
  have e : x + 2 ^ k + 2 ^ k = x + 2 ^ (k + 1) := by rw [Nat.pow_succ]; omega
  exact ⟨hy, by rw [e]; exact h.2.1, by rw [e]; exact h.2.2⟩
theorem root_no {n x k : Nat} (h : RootAt n x (k + 1)) (hy : n < (x + 2 ^ k) * (x + 2 ^ k)) : RootAt n x k :=
  ⟨h.1, hy, by have := h.2.2; rw [Nat.pow_succ] at this; omega⟩
theorem root_end {n x : Nat} (h : RootAt n x 0) : IsRoot n x := ⟨h.1, h.2.1⟩
theorem root_fits {n x k : Nat} (h : RootAt n x (k + 1)) : x + 2 ^ k ≤ 4294967295 ∧ (x + 2 ^ k) * (x + 2 ^ k) < 18446744073709551616 := by
  have h1 := h.2.2
  have h2 := Nat.two_pow_pos k
  rw [Nat.pow_succ] at h1
  have h3 : x + 2 ^ k ≤ 4294967295 := by omega
  exact ⟨h3, Nat.lt_of_le_of_lt (sq_le h3) (by decide)⟩

/-! ### one over a root -/
def IsInv (c x : Nat) : Prop := x * x * c ≤ 18446744073709551616 ∧ 18446744073709551616 < (x + 1) * (x + 1) * c
theorem inv_of_root {c x : Nat} (hc : 0 < c) (h : IsRoot (18446744073709551616 / c) x) : IsInv c x :=
  ⟨(Nat.le_div_iff_mul_le hc).1 h.1, (Nat.div_lt_iff_lt_mul hc).1 h.2⟩
theorem root_of_inv {c x : Nat} (hc : 0 < c) (h : IsInv c x) : IsRoot (18446744073709551616 / c) x :=
  ⟨(Nat.le_div_iff_mul_le hc).2 h.1, (Nat.div_lt_iff_lt_mul hc).2 h.2⟩
theorem inv_one {c x y : Nat} (hc : 0 < c) (h1 : IsInv c x) (h2 : IsInv c y) : x = y := root_one (root_of_inv hc h1) (root_of_inv hc h2)
theorem inv_1 : IsInv 1 4294967296 := ⟨by decide, by decide⟩
/-- 2^64 parted by c, where only 2^64 - 1 can be said. -/
theorem quo_64 {c : Nat} (h1 : 1 < c) (h2 : c ≤ 4294967295) : 18446744073709551616 / c = if 18446744073709551615 % c = c - 1 then 18446744073709551615 / c + 1 else 18446744073709551615 / c := by
  have e := Nat.div_add_mod 18446744073709551615 c
  have hm := Nat.mod_lt 18446744073709551615 (show 0 < c by omega)
  split
  · rename_i h
    rw [Nat.div_eq_of_lt_le]
    · rw [Nat.add_mul, Nat.one_mul, Nat.mul_comm]; omega
    · rw [Nat.add_mul, Nat.add_mul, Nat.one_mul, Nat.mul_comm]; omega
  · rename_i h
    rw [Nat.div_eq_of_lt_le]
    · rw [Nat.mul_comm]; omega
    · rw [Nat.add_mul, Nat.one_mul, Nat.mul_comm]; omega
theorem inv_le {c x : Nat} (hc : 0 < c) (h : IsInv c x) : x ≤ 4294967296 := by
  have h1 : x * x * 1 ≤ x * x * c := Nat.mul_le_mul_left _ hc
  have h2 : x * x ≤ 4294967296 * 4294967296 := by have := h.1; omega
  exact le_sq h2
theorem inv_lt {c x : Nat} (hc : 1 < c) (h : IsInv c x) : x < 4294967296 := by
  have h1 : x * x * 2 ≤ x * x * c := Nat.mul_le_mul_left _ hc
  have h2 : x * x < 4294967296 * 4294967296 := by have := h.1; omega
  exact lt_sq h2
theorem inv_ge {c x : Nat} (hc : c ≤ 4294967295) (h : IsInv c x) : 65536 ≤ x := by
  rcases Nat.lt_or_ge x 65536 with h1 | h1
  · have h2 : (x + 1) * (x + 1) * c ≤ 65536 * 65536 * 4294967295 := Nat.mul_le_mul (sq_le (by omega)) hc
    have := h.2
    omega
  · exact h1
/-- a greater count has no greater one. -/
theorem inv_anti {a b x y : Nat} (ha : 0 < a) (h : a ≤ b) (h1 : IsInv a x) (h2 : IsInv b y) : y ≤ x := by
  refine root_mono (root_of_inv (by omega) h2) (root_of_inv ha h1) ?_
  exact Nat.div_le_div_left h ha
/-- four times as much has half. -/
theorem inv_four {c q z : Nat} (hc : 0 < c) (h1 : IsInv c q) (h2 : IsInv (c * 4) z) : z = q / 2 := by
  have a1 : 2 * z * (2 * z) * c ≤ 18446744073709551616 := by
    have e : 2 * z * (2 * z) * c = z * z * (c * 4) := by
      have : 2 * z * (2 * z) = z * z * 4 := by rw [Nat.mul_mul_mul_comm, Nat.mul_comm (2 * 2)]
      rw [this, Nat.mul_assoc, Nat.mul_comm 4 c]
    rw [e]; exact h2.1
  have a2 : 18446744073709551616 < (2 * (z + 1)) * (2 * (z + 1)) * c := by
    have e : (2 * (z + 1)) * (2 * (z + 1)) * c = (z + 1) * (z + 1) * (c * 4) := by
      have : (2 * (z + 1)) * (2 * (z + 1)) = (z + 1) * (z + 1) * 4 := by rw [Nat.mul_mul_mul_comm, Nat.mul_comm (2 * 2)]
      rw [this, Nat.mul_assoc, Nat.mul_comm 4 c]
    rw [e]; exact h2.2
  have b1 : 2 * z < q + 1 := lt_sq ((Nat.mul_lt_mul_right hc).1 (Nat.lt_of_le_of_lt a1 h1.2))
  have b2 : q < 2 * (z + 1) := lt_sq ((Nat.mul_lt_mul_right hc).1 (Nat.lt_of_le_of_lt h1.1 a2))
  omega
/-- of a power of four. -/
theorem inv_pow : ∀ k : Nat, k < 16 → IsInv (2 ^ (2 * k)) (2 ^ (32 - k)) := by
  have h : ∀ k : Nat, k < 16 → 2 ^ (32 - k) * 2 ^ (32 - k) * 2 ^ (2 * k) ≤ 18446744073709551616 ∧ 18446744073709551616 < (2 ^ (32 - k) + 1) * (2 ^ (32 - k) + 1) * 2 ^ (2 * k) := by decide +kernel
  exact fun k hk => h k hk

/-! ### as functions (never to be reckoned: named) -/
def rootN : Nat → Nat
  | 0 => 0
  | n + 1 => if (rootN n + 1) * (rootN n + 1) ≤ n + 1 then rootN n + 1 else rootN n
theorem rootN_is : ∀ n : Nat, IsRoot n (rootN n)
  | 0 => ⟨Nat.le_refl _, by decide⟩
  | n + 1 => by
    obtain ⟨h1, h2⟩ := rootN_is n
    unfold rootN
    split
    · rename_i h
      refine ⟨h, ?_⟩
      have h3 : (rootN n + 1) * (rootN n + 1) < (rootN n + 1 + 1) * (rootN n + 1 + 1) := sq_lt (by omega)
      omega
    · rename_i h
      exact ⟨by omega, by omega⟩
theorem rootN_one {n r : Nat} (h : IsRoot n r) : rootN n = r := root_one (rootN_is n) h
/-- of 0 as of 1. -/
def invN (c : Nat) : Nat := if c ≤ 1 then 4294967296 else rootN (18446744073709551616 / c)
theorem invN_is (c : Nat) : IsInv (max c 1) (invN c) := by
  unfold invN
  split
  · rename_i h
    rw [show max c 1 = 1 by omega]; exact inv_1
  · rename_i h
    rw [show max c 1 = c by omega]
    exact inv_of_root (by omega) (rootN_is _)
theorem invN_le (c : Nat) : invN c ≤ 4294967296 := inv_le (by omega) (invN_is c)
theorem invN_one {c x : Nat} (h : IsInv (max c 1) x) : invN c = x := inv_one (by omega) (invN_is c) h
theorem invN_anti {a b : Nat} (h : a ≤ b) : invN b ≤ invN a := inv_anti (by omega) (by omega) (invN_is a) (invN_is b)

/-! ### a next time -/
def clampR (n low high : Int) : Int := min (max n low) high
theorem clamp_in {n low high : Int} (h : low ≤ high) : low ≤ clampR n low high ∧ clampR n low high ≤ high := by unfold clampR; omega
theorem clamp_id {n low high : Int} (h1 : low ≤ n) (h2 : n ≤ high) : clampR n low high = n := by unfold clampR; omega
/-- interval times x over 2^32, down. -/
def stepR (i x : Nat) : Nat := i * x / 4294967296
theorem step_le {i x : Nat} (hx : x ≤ 4294967296) : stepR i x ≤ i := by
  unfold stepR
  have : i * x ≤ i * 4294967296 := Nat.mul_le_mul_left _ hx
  omega
theorem step_mono {i x y : Nat} (h : x ≤ y) : stepR i x ≤ stepR i y := by
  unfold stepR
  exact Nat.div_le_div_right (Nat.mul_le_mul_left _ h)
theorem step_one (i : Nat) : stepR i 4294967296 = i := by unfold stepR; omega
theorem step_pow {i k : Nat} (hk : k < 16) : stepR i (2 ^ (32 - k)) = i / 2 ^ k := by
  unfold stepR
  have e : 4294967296 = 2 ^ (32 - k) * 2 ^ k := by rw [← Nat.pow_add, show 32 - k + k = 32 by omega]
  rw [Nat.mul_comm i, e, Nat.mul_div_mul_left _ _ (Nat.two_pow_pos _)]
def nextR (at_ interval : Int) (x : Nat) : Int := clampR at_ 0 1125899906842624 + (stepR (clampR interval 0 1073741824).toNat x : Nat)
def nextN (at_ interval : Int) (c : Nat) : Int := nextR at_ interval (invN c)
theorem next_in {a i : Int} {x : Nat} (hx : x ≤ 4294967296) : clampR a 0 1125899906842624 ≤ nextR a i x ∧ nextR a i x ≤ clampR a 0 1125899906842624 + 1073741824 := by
  unfold nextR
  have h1 := step_le (i := (clampR i 0 1073741824).toNat) hx
  have h2 := clamp_in (n := i) (low := 0) (high := 1073741824) (by decide)
  omega
theorem next_mono {a i : Int} {x y : Nat} (h : x ≤ y) : nextR a i x ≤ nextR a i y := by
  unfold nextR
  have := step_mono (i := (clampR i 0 1073741824).toNat) h
  omega
end Go.Proofs.YtlbfioknkagboaaDoor
