/-
  MATHS OF AIR TIME: the greatest that takes no longer, as a function. No program is named.
-/
import Derived.Test.YtlkoleannlpflaaDoorAirM
namespace Go.Proofs.YtlkoleannlpflaaDoor
set_option linter.unusedVariables false
set_option linter.unusedSimpArgs false

def quotR (r : Rt) (t : Int) : Int := (t - preR r) / symR r
def mostR (r : Rt) (t : Int) : Int := if validR r = true ∧ ppduR r 0 ≤ t then (if ppduR r 1048576 ≤ t then 1048576 else (quotR r t * bitsR r - 22) / 8) else -1
theorem most_no1 {r : Rt} {t : Int} (h : validR r = false) : mostR r t = -1 := by unfold mostR; rw [if_neg (by simp [h])]
theorem most_no2 {r : Rt} {t : Int} (h : t < ppduR r 0) : mostR r t = -1 := by unfold mostR; rw [if_neg (by omega)]
theorem most_max {r : Rt} {t : Int} (hv : validR r = true) (h : ppduR r 1048576 ≤ t) : mostR r t = 1048576 := by
  have h0 : ppduR r 0 ≤ ppduR r 1048576 := ppdu_mono (by omega) (by omega) (by omega)
  unfold mostR; rw [if_pos ⟨hv, by omega⟩, if_pos h]
theorem most_mid {r : Rt} {t : Int} (hv : validR r = true) (h0 : ppduR r 0 ≤ t) (h : t < ppduR r 1048576) : mostR r t = (quotR r t * bitsR r - 22) / 8 := by
  unfold mostR; rw [if_pos ⟨hv, h0⟩, if_neg (by omega)]
/-- what is reckoned on the way. -/
theorem quot_in {r : Rt} {t : Int} (hv : validR r = true) (h0 : ppduR r 0 ≤ t) (h : t < ppduR r 1048576) :
    (0 ≤ t - preR r ∧ t ≤ 60000000) ∧ (1 ≤ quotR r t ∧ quotR r t ≤ 1700000) ∧ 22 ≤ quotR r t * bitsR r ∧ quotR r t * bitsR r ≤ 1700000 * 130667 := by
  obtain ⟨a1, a2, a3⟩ := least_of hv
  obtain ⟨b1, b2, b3⟩ := most_of hv
  have hu := (ppdu_le (r := r) (n := 1048576)).2
  rw [ppdu_of (okA_iff.2 ⟨hv, by omega, by omega⟩)] at h0
  have h1 := syms_pos (b := bitsR r) (n := 0) (by omega) (by omega)
  have h2 := syms_lo (b := bitsR r) (n := 0) (by omega)
  have h3 : symsA (bitsR r) 0 ≤ quotR r t := by
    unfold quotR
    rw [Int.le_ediv_iff_mul_le (by omega)]
    omega
  have h4 : 0 ≤ symsA (bitsR r) 0 * symR r := Int.mul_nonneg (by omega) (by omega)
  have h5 : bitsR r * symsA (bitsR r) 0 ≤ bitsR r * quotR r t := Int.mul_le_mul_of_nonneg_left h3 (by omega)
  have h6 : quotR r t ≤ 1700000 := by
    unfold quotR
    have h7 : (t - preR r) / symR r < 1700001 := by
      rw [Int.ediv_lt_iff_lt_mul (by omega)]
      have h8 : 1700001 * 36 ≤ 1700001 * symR r := Int.mul_le_mul_of_nonneg_left a2 (by decide)
      omega
    omega
  have h9 : quotR r t * bitsR r ≤ 1700000 * 130667 := Int.mul_le_mul h6 b1 (by omega) (by omega)
  rw [Int.mul_comm (quotR r t) (bitsR r)] at h9 ⊢
  exact ⟨⟨by omega, by omega⟩, ⟨by omega, h6⟩, by omega, h9⟩
theorem most_is (r : Rt) (t : Int) : IsMost r t (mostR r t) := by
  cases hv : validR r
  · rw [most_no1 hv]; exact .inr ⟨.inl hv, rfl⟩
  by_cases h0 : t < ppduR r 0
  · rw [most_no2 h0]; exact .inr ⟨.inr h0, rfl⟩
  by_cases h1 : ppduR r 1048576 ≤ t
  · rw [most_max hv h1]; exact .inl ⟨hv, by omega, by omega, by omega, h1, fun k h2 h3 => by omega⟩
  have h0' : ppduR r 0 ≤ t := by omega
  have h1' : t < ppduR r 1048576 := by omega
  rw [most_mid hv h0' h1']
  obtain ⟨⟨q1, q2⟩, ⟨q3, q4⟩, q5, q6⟩ := quot_in hv h0' h1'
  obtain ⟨a1, a2, a3⟩ := least_of hv
  have hs : 0 < symR r := by omega
  have hb : 0 < bitsR r := by omega
  have e1 : quotR r t * symR r ≤ t - preR r := Int.ediv_mul_le _ (by omega)
  have e2 : t - preR r < (quotR r t + 1) * symR r := by
    have := Int.lt_ediv_add_one_mul_self (t - preR r) hs
    exact this
  have hm := ppdu_of (okA_iff.2 ⟨hv, by omega, by omega⟩ : okA r 1048576 = true)
  rw [hm] at h1'
  clear hm
  generalize quotR r t = q at *
  generalize hn : (q * bitsR r - 22) / 8 = n
  have hn0 : 0 ≤ n := by omega
  have hn1 : 22 + 8 * n ≤ q * bitsR r := by omega
  have hn2 : q * bitsR r < 22 + 8 * (n + 1) := by omega
  rw [Int.mul_comm q (bitsR r)] at hn1 hn2
  have f1 : symsA (bitsR r) n ≤ q := by
    have g1 := syms_hi (b := bitsR r) (n := n) hb
    have g2 : bitsR r * (symsA (bitsR r) n - 1) < bitsR r * q := by omega
    have := Int.lt_of_mul_lt_mul_left g2 (by omega)
    omega
  have f2 : symsA (bitsR r) n * symR r ≤ q * symR r := Int.mul_le_mul_of_nonneg_right f1 (by omega)
  have f3 : n ≤ 1048576 := by
    rcases (by omega : n ≤ 1048576 ∨ 1048576 ≤ n) with h | h
    · exact h
    · have g1 := syms_mono (b := bitsR r) hb h
      have g2 : symsA (bitsR r) 1048576 * symR r ≤ q * symR r := Int.mul_le_mul_of_nonneg_right (by omega) (by omega)
      omega
  refine .inl ⟨hv, h0', hn0, f3, ?_, fun k k1 k2 => ?_⟩
  · rw [ppdu_of (okA_iff.2 ⟨hv, hn0, f3⟩)]; omega
  · rw [ppdu_of (okA_iff.2 ⟨hv, by omega, k2⟩)]
    have g1 := syms_lo (b := bitsR r) (n := k) hb
    have g2 : bitsR r * q < bitsR r * symsA (bitsR r) k := by omega
    have g3 := Int.lt_of_mul_lt_mul_left g2 (by omega)
    have g4 : (q + 1) * symR r ≤ symsA (bitsR r) k * symR r := Int.mul_le_mul_of_nonneg_right (by omega) (by omega)
    omega
theorem most_eq {r : Rt} {t n : Int} (h : IsMost r t n) : n = mostR r t := most_one h (most_is r t)
theorem ppdu_ans : ppduR ⟨1, 4, 1, 20, 0⟩ 32 = 320 := by decide +kernel
theorem tot_of {r : Rt} {n : Int} (h : okA r n = true) : totR r n = ppduR r n + 480 := by unfold totR; rw [if_pos h]
theorem tot_no {r : Rt} {n : Int} (h : okA r n = false) : totR r n = 0 := by unfold totR; rw [h]; rfl
end Go.Proofs.YtlkoleannlpflaaDoor
