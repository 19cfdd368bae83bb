/-
  MATHS OF A WINDOW's WORD: those that are out as the bits of a number. No program is named.
-/
import Derived.Test.YtlbfioknkagboaaDoorWinM
import Derived.Lib.TrailingZeros
import Derived.Laws.Bits64b
import Derived.IntWalk
namespace Go.Proofs.YtlbfioknkagboaaDoor
set_option linter.unusedVariables false
set_option linter.unusedSimpArgs false

/-- the word of those that are out. -/
def wdW : List Nat → Nat
  | [] => 0
  | d :: r => 2 ^ d ||| wdW r
theorem wd_bit (i : Nat) : ∀ ds : List Nat, (wdW ds).testBit i = decide (i ∈ ds)
  | [] => by simp [wdW]
  | d :: r => by
    unfold wdW
    rw [Nat.testBit_or, wd_bit i r, Nat.testBit_two_pow]
    by_cases h : d = i
    · subst h; simp
    · have h2 : ¬ i = d := fun e => h e.symm
      simp [h, h2]
theorem wd_lt {ds : List Nat} (h : ∀ d ∈ ds, d < 64) : wdW ds < 18446744073709551616 := by
  show wdW ds < 2 ^ 64
  refine Nat.lt_pow_two_of_testBit _ fun i hi => ?_
  rw [wd_bit]
  simp only [decide_eq_false_iff_not]
  intro e
  have := h i e
  omega
theorem wd_ext {x : Nat} {ds : List Nat} (h : ∀ i, x.testBit i = decide (i ∈ ds)) : x = wdW ds :=
  Nat.eq_of_testBit_eq fun i => by rw [h i, wd_bit]
theorem wd_none {ds : List Nat} (h : wdW ds = 0) : ds = [] := by
  cases ds with
  | nil => rfl
  | cons d r =>
    have := wd_bit d (d :: r)
    rw [h] at this
    simp at this
theorem wd_pos {d : Nat} {r : List Nat} : wdW (d :: r) ≠ 0 := fun h => by cases wd_none h
theorem wd_snoc (ds : List Nat) (g : Nat) : wdW ds ||| 2 ^ g = wdW (ds ++ [g]) := by
  refine wd_ext fun i => ?_
  rw [Nat.testBit_or, wd_bit, Nat.testBit_two_pow]
  by_cases h : g = i
  · subst h; simp
  · have h2 : ¬ i = g := fun e => h e.symm
    simp [h, h2]
/-- moved down. -/
theorem wd_shift {ds : List Nat} {n : Nat} (h : ∀ d ∈ ds, n ≤ d) : wdW ds / 2 ^ n = wdW (ds.map fun k => k - n) := by
  refine wd_ext fun i => ?_
  rw [Nat.testBit_div_two_pow, wd_bit, decide_eq_decide]
  rw [List.mem_map]
  constructor
  · intro hm
    exact ⟨i + n, hm, by omega⟩
  · rintro ⟨k, hk, e⟩
    have := h k hk
    rwa [show i + n = k by omega]
/-- is one out? -/
theorem wd_at (ds : List Nat) (k : Nat) : wdW ds / 2 ^ k % 2 = if k ∈ ds then 1 else 0 := by
  have := wd_bit k ds
  rw [Nat.testBit_eq_decide_div_mod_eq, decide_eq_decide] at this
  by_cases h : k ∈ ds
  · rw [if_pos h]; exact this.2 h
  · rw [if_neg h]
    have h1 : ¬ wdW ds / 2 ^ k % 2 = 1 := fun e => h (this.1 e)
    generalize wdW ds / 2 ^ k = q at *
    omega
/-- of a list that rises: the first one times what is odd. -/
theorem wd_odd {d : Nat} {r : List Nat} (h : (d :: r).Pairwise fun a b => a < b) : wdW (d :: r) = 2 ^ d * (2 * (wdW r / 2 ^ (d + 1)) + 1) ∧ wdW r = 2 ^ d * (2 * (wdW r / 2 ^ (d + 1))) := by
  rw [List.pairwise_cons] at h
  have hr : wdW r % 2 ^ (d + 1) = 0 := by
    apply Nat.eq_of_testBit_eq
    intro i
    rw [Nat.testBit_mod_two_pow, wd_bit, Nat.zero_testBit]
    by_cases hi : i ∈ r
    · have := h.1 i hi
      simp; omega
    · simp [hi]
  have e1 : wdW r = 2 ^ (d + 1) * (wdW r / 2 ^ (d + 1)) := by
    have := Nat.div_add_mod (wdW r) (2 ^ (d + 1))
    omega
  have e2 : wdW r = 2 ^ d * (2 * (wdW r / 2 ^ (d + 1))) := by
    rw [← Nat.mul_assoc, ← Nat.pow_succ]; exact e1
  refine ⟨?_, e2⟩
  have e3 : 2 ^ d * (2 * (wdW r / 2 ^ (d + 1)) + 1) = 2 ^ d + wdW r := by rw [Nat.mul_add, ← e2]; omega
  rw [e3]
  refine (wd_ext fun i => ?_).symm
  rw [Nat.add_comm]
  conv => lhs; rw [e1]
  rw [Nat.testBit_two_pow_mul_add _ (show 2 ^ d < 2 ^ (d + 1) from Nat.pow_lt_pow_right (by decide) (by omega)), Nat.testBit_two_pow]
  have h5 := wd_bit i r
  rw [e1, Nat.testBit_two_pow_mul] at h5
  split
  · rename_i hi
    by_cases e : d = i
    · subst e; simp
    · have hn : ¬ i ∈ r := fun hm => by have := h.1 i hm; omega
      have h2 : ¬ i = d := fun e2 => e e2.symm
      simp [e, hn, h2]
  · rename_i hi
    rw [show decide (i ≥ d + 1) = true by simp; omega] at h5
    rw [Bool.true_and] at h5
    rw [h5, decide_eq_decide]
    have h2 : ¬ i = d := by omega
    simp [h2]
theorem ctz_of {f : Nat} : ∀ (d m : Nat), d < f → Lib.ctzFrom f (2 ^ d * (2 * m + 1)) = d := by
  induction f with
  | zero => intro d m h; omega
  | succ f ih =>
    intro d m h
    unfold Lib.ctzFrom
    cases d with
    | zero => rw [if_pos (by rw [Nat.pow_zero]; omega)]
    | succ d =>
      rw [if_neg (by rw [Nat.pow_succ, Nat.mul_comm (2 ^ d), Nat.mul_assoc]; omega), show 2 ^ (d + 1) * (2 * m + 1) / 2 = 2 ^ d * (2 * m + 1) by rw [Nat.pow_succ, Nat.mul_comm (2 ^ d), Nat.mul_assoc]; omega, ih d m (by omega)]
      omega
theorem wd_ctz {d : Nat} {r : List Nat} (h : (d :: r).Pairwise fun a b => a < b) (hd : d < 64) : Lib.ctz 64 (wdW (d :: r)) = d := by
  unfold Lib.ctz
  rw [if_neg wd_pos, (wd_odd h).1]
  exact ctz_of _ _ hd
/-- the lowest one goes. -/
theorem wd_low {d : Nat} {r : List Nat} (h : (d :: r).Pairwise fun a b => a < b) : wdW (d :: r) &&& (wdW (d :: r) - 1) = wdW r := by
  obtain ⟨e1, e2⟩ := wd_odd h
  generalize wdW r / 2 ^ (d + 1) = m at *
  have hp : 0 < 2 ^ d := Nat.pos_of_ne_zero (by simp)
  have e3 : wdW (d :: r) - 1 = 2 ^ d * (2 * m) + (2 ^ d - 1) := by rw [e1, Nat.mul_add]; omega
  rw [List.pairwise_cons] at h
  refine wd_ext fun i => ?_
  rw [Nat.testBit_and, wd_bit, e3, Nat.testBit_two_pow_mul_add _ (show 2 ^ d - 1 < 2 ^ d by omega)]
  split
  · rename_i hi
    have hn : ¬ i ∈ r := fun hm => by have := h.1 i hm; omega
    have h2 : ¬ i = d := by omega
    simp [hn, h2]
  · rename_i hi
    have h5 := wd_bit i r
    rw [e2, Nat.testBit_two_pow_mul, show decide (i ≥ d) = true by simp; omega, Bool.true_and] at h5
    rw [h5]
    by_cases e : i = d
    · subst e
      have hn : ¬ i ∈ r := fun hm => by have := h.1 i hm; omega
      simp [hn]
    · simp [e]
theorem wd_not (ds : List Nat) (h : ∀ d ∈ ds, d < 64) {d : Nat} (hd : d < 64) : Go.bits .andNot .u64 (wdW ds : Int) ((2 ^ d : Nat) : Int) = (wdW (ds.filter fun k => k != d) : Int) := by
  have hl := wd_lt h
  have hp : 2 ^ d < 2 ^ 64 := Nat.pow_lt_pow_right (by decide) hd
  have h1 : (BitVec.ofInt 64 (wdW ds : Int)).toNat = wdW ds := by
    rw [BitVec.ofInt_natCast, BitVec.toNat_ofNat]; exact Nat.mod_eq_of_lt hl
  have h2 : (BitVec.ofInt 64 ((2 ^ d : Nat) : Int)).toNat = 2 ^ d := by
    rw [BitVec.ofInt_natCast, BitVec.toNat_ofNat]; exact Nat.mod_eq_of_lt hp
  show IntKind.u64.wrap ((BitVec.ofInt 64 (wdW ds : Int) &&& ~~~ BitVec.ofInt 64 ((2 ^ d : Nat) : Int)).toNat : Int) = _
  have h3 : (BitVec.ofInt 64 (wdW ds : Int) &&& ~~~ BitVec.ofInt 64 ((2 ^ d : Nat) : Int)).toNat = wdW (ds.filter fun k => k != d) := by
    refine wd_ext fun i => ?_
    rw [BitVec.toNat_and, Nat.testBit_and, h1, wd_bit, BitVec.testBit_toNat, BitVec.getLsbD_not, ← BitVec.testBit_toNat, h2, Nat.testBit_two_pow]
    by_cases e : d = i
    · subst e; simp
    · have h2 : ¬ i = d := fun e2 => e e2.symm
      by_cases hm : i ∈ ds
      · have := h i hm; simp [e, h2, hm, this]
      · simp [hm]
  rw [h3, IntKind.wrap_u64]
  have := wd_lt (ds := ds.filter fun k => k != d) fun k hk => h k (List.mem_filter.1 hk).1
  omega
end Go.Proofs.YtlbfioknkagboaaDoor
