/-
  MATHS OF AIR TIME: how long so many bytes take at a rate; the greatest that takes no longer. No program is named.
-/
import Derived.Test.YtlkoleannlpflaaDoorRateM
namespace Go.Proofs.YtlkoleannlpflaaDoor
set_option linter.unusedVariables false
set_option linter.unusedSimpArgs false

/-- how many symbols so many bits need, of b bits each. -/
def symsA (b n : Int) : Int := (22 + 8 * n + b - 1) / b
def okA (r : Rt) (n : Int) : Bool := validR r && decide (0 ≤ n) && decide (n ≤ 1048576)
def ppduR (r : Rt) (n : Int) : Int := if okA r n = true then preR r + symsA (bitsR r) n * symR r else 0
theorem okA_iff {r : Rt} {n : Int} : okA r n = true ↔ validR r = true ∧ 0 ≤ n ∧ n ≤ 1048576 := by
  unfold okA; simp only [Bool.and_eq_true, decide_eq_true_eq]; exact ⟨fun h => ⟨h.1.1, h.1.2, h.2⟩, fun h => ⟨⟨h.1, h.2.1⟩, h.2.2⟩⟩
theorem ppdu_of {r : Rt} {n : Int} (h : okA r n = true) : ppduR r n = preR r + symsA (bitsR r) n * symR r := by unfold ppduR; rw [if_pos h]
theorem ppdu_no {r : Rt} {n : Int} (h : okA r n = false) : ppduR r n = 0 := by unfold ppduR; rw [if_neg (by simp [h])]
theorem syms_mono {b m n : Int} (hb : 0 < b) (h : m ≤ n) : symsA b m ≤ symsA b n := by
  unfold symsA; exact Int.ediv_le_ediv hb (by omega)
theorem syms_pos {b n : Int} (hb : 0 < b) (h : 0 ≤ n) : 1 ≤ symsA b n := by
  unfold symsA
  rw [Int.le_ediv_iff_mul_le hb]
  omega
/-- just so many: enough, and one less would be too few. -/
theorem syms_lo {b n : Int} (hb : 0 < b) : 22 + 8 * n ≤ b * symsA b n := by
  unfold symsA
  have h1 := Int.mul_ediv_add_emod (22 + 8 * n + b - 1) b
  have h2 := Int.emod_lt_of_pos (22 + 8 * n + b - 1) hb
  omega
theorem syms_hi {b n : Int} (hb : 0 < b) : b * (symsA b n - 1) < 22 + 8 * n := by
  unfold symsA
  have h1 := Int.mul_ediv_add_emod (22 + 8 * n + b - 1) b
  have h2 := Int.emod_nonneg (22 + 8 * n + b - 1) (show b ≠ 0 by omega)
  rw [Int.mul_sub, Int.mul_one]
  omega
theorem syms_two {b m n : Int} (hb : 0 < b) : symsA b (m + n) ≤ symsA b m + symsA b n := by
  have h1 := syms_lo (b := b) (n := m) hb
  have h2 := syms_lo (b := b) (n := n) hb
  have h3 : 22 + 8 * (m + n) ≤ b * (symsA b m + symsA b n) := by have h5 := Int.mul_add b (symsA b m) (symsA b n); omega
  have h4 := syms_hi (b := b) (n := m + n) hb
  have h5 : b * (symsA b (m + n) - 1) < b * (symsA b m + symsA b n) := by omega
  have h6 := Int.lt_of_mul_lt_mul_left h5 (by omega)
  omega
/-- more bits a symbol never need more. -/
theorem syms_anti {a b n : Int} (ha : 0 < a) (h : a ≤ b) (hn : 0 ≤ n) : symsA b n ≤ symsA a n := by
  have hb : 0 < b := by omega
  have h1 := syms_lo (b := a) (n := n) ha
  have h2 := syms_hi (b := b) (n := n) hb
  have h3 := syms_pos (b := a) (n := n) ha hn
  have h4 : a * symsA a n ≤ b * symsA a n := Int.mul_le_mul_of_nonneg_right h (by omega)
  have h5 : b * (symsA b n - 1) < b * symsA a n := by omega
  have h6 := Int.lt_of_mul_lt_mul_left h5 (by omega)
  omega
/-- the greatest of each. -/
def mostB (r : Rt) : Bool := decide (bitsR r ≤ 130667) && decide (symR r ≤ 160) && decide (preR r ≤ 1000)
def checkA (m : Int) : Bool := (allR m).all mostB
theorem checkA_1 : checkA 1 = true := by decide +kernel
theorem checkA_2 : checkA 2 = true := by decide +kernel
theorem checkA_3 : checkA 3 = true := by decide +kernel
theorem checkA_4 : checkA 4 = true := by decide +kernel
theorem most_of {r : Rt} (h : validR r = true) : bitsR r ≤ 130667 ∧ symR r ≤ 160 ∧ preR r ≤ 1000 := by
  have hc : checkA r.m = true := by
    rcases valid_mode h with e | e | e | e <;> rw [e]
    · exact checkA_1
    · exact checkA_2
    · exact checkA_3
    · exact checkA_4
  have := List.all_eq_true.1 hc r (valid_mem h)
  unfold mostB at this
  simp only [Bool.and_eq_true, decide_eq_true_eq] at this
  exact ⟨this.1.1, this.1.2, this.2⟩
theorem syms_le {b n : Int} (hb : 24 ≤ b) (h0 : 0 ≤ n) (h : n ≤ 1048576) : symsA b n ≤ 349527 := by
  have h1 := syms_anti (a := 24) (b := b) (n := n) (by decide) hb h0
  have h2 := syms_mono (b := 24) (m := n) (n := 1048576) (by decide) h
  have h3 : symsA 24 1048576 = 349527 := by decide
  omega
theorem ppdu_le {r : Rt} {n : Int} : 0 ≤ ppduR r n ∧ ppduR r n ≤ 60000000 := by
  cases h : okA r n
  · rw [ppdu_no h]; omega
  · obtain ⟨hv, h0, h1⟩ := okA_iff.1 h
    obtain ⟨a1, a2, a3⟩ := least_of hv
    obtain ⟨b1, b2, b3⟩ := most_of hv
    rw [ppdu_of h]
    have h2 := syms_le a1 h0 h1
    have h3 := syms_pos (b := bitsR r) (n := n) (by omega) h0
    have h4 : symsA (bitsR r) n * symR r ≤ 349527 * 160 := Int.mul_le_mul h2 b2 (by omega) (by omega)
    have h5 : 0 ≤ symsA (bitsR r) n * symR r := Int.mul_nonneg (by omega) (by omega)
    omega
theorem ppdu_mono {r : Rt} {m n : Int} (h0 : 0 ≤ m) (h : m ≤ n) (h1 : n ≤ 1048576) : ppduR r m ≤ ppduR r n := by
  cases hv : validR r
  · rw [ppdu_no (by unfold okA; rw [hv]; rfl), ppdu_no (by unfold okA; rw [hv]; rfl)]; exact Int.le_refl _
  · obtain ⟨a1, a2, a3⟩ := least_of hv
    rw [ppdu_of (okA_iff.2 ⟨hv, h0, by omega⟩), ppdu_of (okA_iff.2 ⟨hv, by omega, h1⟩)]
    have := Int.mul_le_mul_of_nonneg_right (syms_mono (b := bitsR r) (by omega) h) (show 0 ≤ symR r by omega)
    omega
theorem ppdu_pos {r : Rt} {n : Int} (h : okA r n = true) : 236 ≤ ppduR r n := by
  obtain ⟨hv, h0, h1⟩ := okA_iff.1 h
  obtain ⟨a1, a2, a3⟩ := least_of hv
  rw [ppdu_of h]
  have h3 := syms_pos (b := bitsR r) (n := n) (by omega) h0
  have h4 : 1 * 36 ≤ symsA (bitsR r) n * symR r := Int.mul_le_mul h3 a2 (by omega) (by omega)
  omega
/-- parted in two it takes longer. -/
theorem ppdu_two {r : Rt} {m n : Int} (hv : validR r = true) (hm : 0 ≤ m) (hn : 0 ≤ n) (h1 : m + n ≤ 1048576) : ppduR r (m + n) < ppduR r m + ppduR r n := by
  obtain ⟨a1, a2, a3⟩ := least_of hv
  rw [ppdu_of (okA_iff.2 ⟨hv, hm, by omega⟩), ppdu_of (okA_iff.2 ⟨hv, hn, by omega⟩), ppdu_of (okA_iff.2 ⟨hv, by omega, h1⟩)]
  have h2 := Int.mul_le_mul_of_nonneg_right (syms_two (b := bitsR r) (m := m) (n := n) (by omega)) (show 0 ≤ symR r by omega)
  rw [Int.add_mul] at h2
  omega
/-- of one mode, and as many streams: more bits, a symbol no longer: never slower. -/
theorem pre_same {a b : Rt} (ha : validR a = true) (hb : validR b = true) (hm : a.m = b.m) (hs : a.s = b.s) : preR a = preR b := by
  unfold preR; rw [if_pos ha, if_pos hb, hm, hs]
theorem ppdu_fast {a b : Rt} {n : Int} (ha : validR a = true) (hb : validR b = true) (hm : a.m = b.m) (hs : a.s = b.s) (hbits : bitsR b ≤ bitsR a) (hsym : symR a ≤ symR b) (h0 : 0 ≤ n) (h1 : n ≤ 1048576) : ppduR a n ≤ ppduR b n := by
  obtain ⟨a1, a2, a3⟩ := least_of ha
  obtain ⟨b1, b2, b3⟩ := least_of hb
  rw [ppdu_of (okA_iff.2 ⟨ha, h0, h1⟩), ppdu_of (okA_iff.2 ⟨hb, h0, h1⟩), pre_same ha hb hm hs]
  have h2 := syms_anti (a := bitsR b) (b := bitsR a) (n := n) (by omega) hbits h0
  have h3 := syms_pos (b := bitsR b) (n := n) (by omega) h0
  have h4 : symsA (bitsR a) n * symR a ≤ symsA (bitsR b) n * symR b := Int.mul_le_mul h2 hsym (by omega) (by omega)
  omega
def rAns : Rt := ⟨1, 4, 1, 20, 0⟩
def ansR : Int := 160 + ppduR rAns 32
theorem ans_is : ansR = 480 := by decide +kernel
def totR (r : Rt) (n : Int) : Int := if okA r n = true then ppduR r n + 480 else 0

/-! ### the greatest that takes no longer -/
def IsMost (r : Rt) (t n : Int) : Prop := (validR r = true ∧ ppduR r 0 ≤ t ∧ 0 ≤ n ∧ n ≤ 1048576 ∧ ppduR r n ≤ t ∧ ∀ k : Int, n < k → k ≤ 1048576 → t < ppduR r k) ∨ ((validR r = false ∨ t < ppduR r 0) ∧ n = -1)
theorem most_one {r : Rt} {t m n : Int} (h1 : IsMost r t m) (h2 : IsMost r t n) : m = n := by
  rcases h1 with ⟨v, p, m0, m1, m2, m3⟩ | ⟨v, rfl⟩
  · rcases h2 with ⟨_, _, n0, n1, n2, n3⟩ | ⟨v', rfl⟩
    · rcases Int.lt_trichotomy m n with h | h | h
      · have := m3 n h n1; omega
      · exact h
      · have := n3 m h m1; omega
    · rcases v' with v' | v'
      · rw [v] at v'; cases v'
      · omega
  · rcases h2 with ⟨v', p, n0, n1, n2, n3⟩ | ⟨v', rfl⟩
    · rcases v with v | v
      · rw [v] at v'; cases v'
      · omega
    · rfl
/-- less time has no greater one. -/
theorem most_less {r : Rt} {t u m n : Int} (h1 : IsMost r t m) (h2 : IsMost r u n) (h : u ≤ t) : n ≤ m := by
  rcases h2 with ⟨v, p, n0, n1, n2, n3⟩ | ⟨v, rfl⟩
  · rcases h1 with ⟨_, _, m0, m1, m2, m3⟩ | ⟨v', rfl⟩
    · rcases (by omega : m < n ∨ n ≤ m) with h' | h'
      · have := m3 n h' n1; omega
      · exact h'
    · rcases v' with v' | v'
      · rw [v] at v'; cases v'
      · omega
  · rcases h1 with ⟨_, _, m0, m1, m2, m3⟩ | ⟨v', rfl⟩ <;> omega
/-- a search by halves: its state, its steps, its end. -/
def Halves (r : Rt) (t low high : Int) : Prop := 0 ≤ low ∧ low ≤ high ∧ high ≤ 1048576 ∧ ppduR r low ≤ t ∧ ∀ k : Int, high < k → k ≤ 1048576 → t < ppduR r k
theorem halves_start {r : Rt} {t : Int} (h : ppduR r 0 ≤ t) : Halves r t 0 1048576 := ⟨by omega, by omega, by omega, h, fun k h1 h2 => by omega⟩
theorem halves_up {r : Rt} {t low high mid : Int} (h : Halves r t low high) (h1 : low < mid) (h2 : mid ≤ high) (h3 : ppduR r mid ≤ t) : Halves r t mid high := ⟨by have := h.1; omega, h2, h.2.2.1, h3, h.2.2.2.2⟩
theorem halves_down {r : Rt} {t low high mid : Int} (h : Halves r t low high) (h1 : low < mid) (h2 : mid ≤ high) (h3 : t < ppduR r mid) : Halves r t low (mid - 1) :=
  ⟨h.1, by omega, by have := h.2.2.1; omega, h.2.2.2.1, fun k k1 k2 => by
    have h4 := h.1
    rcases (by omega : high < k ∨ k ≤ high) with h5 | h5
    · exact h.2.2.2.2 k h5 k2
    · have := ppdu_mono (r := r) (m := mid) (n := k) (by omega) (by omega) k2; omega⟩
theorem halves_end {r : Rt} {t low high : Int} (hv : validR r = true) (h0 : ppduR r 0 ≤ t) (h : Halves r t low high) (he : high ≤ low) : IsMost r t low := by
  obtain ⟨h1, h2, h3, h4, h5⟩ := h
  exact .inl ⟨hv, h0, h1, by omega, h4, fun k k1 k2 => h5 k (by omega) k2⟩
end Go.Proofs.YtlkoleannlpflaaDoor
