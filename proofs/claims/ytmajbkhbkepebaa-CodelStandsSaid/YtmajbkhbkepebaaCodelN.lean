/-
  MATHS OF WHAT WAITED TOO LONG: single pulls, said whole: to wait, to hold, to begin, to keep, to drop one more, to end. No program is named.
-/
import Derived.Test.YtmajbkhbkepebaaCodelM
namespace Go.Proofs.Ytmajbkhbkepebaa
set_option linter.unusedVariables false
set_option linter.unusedSimpArgs false

section
variable {q : Pl} {c : Cd} {bytes : Int} {x y : It} {r : List It}
theorem late_of {first : Int} (hs : soonB q bytes x = false) (h0 : first ≠ 0) (h1 : first ≤ q.now) : lookL q first bytes (x :: r) = true := by
  rw [lookL_cons, hs]; simp [h0, h1]
theorem hold_of {first : Int} (hs : soonB q bytes x = false) (h : first = 0 ∨ q.now < first) : lookL q first bytes (x :: r) = false := by
  rw [lookL_cons, hs]
  rcases h with h | h
  · simp [h]
  · have : decide (first ≤ q.now) = false := by simp; omega
    simp [this]
theorem front_of {first : Int} (hs : soonB q bytes x = false) (h0 : first ≠ 0) : lookF q first bytes (x :: r) = first := by
  rw [lookF_cons, if_neg (by rw [hs]; decide), if_neg h0]
/-- it begins to wait. -/
theorem pull_wait (hon : c.on = false) (hs : soonB q bytes x = false) (h0 : c.first = 0) : pullR q c bytes (x :: r) = (⟨q.now + q.interval, c.drop, c.count, c.last, false⟩, 0, true) := by
  unfold pullR
  rw [if_neg (by simp), if_neg (by simp [hon]), if_neg (by rw [hold_of hs (.inl h0)]; decide), lookF_cons, if_neg (by rw [hs]; decide), if_pos h0]
/-- it waits on. -/
theorem pull_hold (hon : c.on = false) (hs : soonB q bytes x = false) (h0 : c.first ≠ 0) (h1 : q.now < c.first) : pullR q c bytes (x :: r) = (⟨c.first, c.drop, c.count, c.last, false⟩, 0, true) := by
  unfold pullR
  rw [if_neg (by simp), if_neg (by simp [hon]), if_neg (by rw [hold_of hs (.inr h1)]; decide), front_of hs h0]
/-- it begins to drop; the next one is late, too. -/
theorem pull_begin (hon : c.on = false) (hs : soonB q bytes x = false) (h0 : c.first ≠ 0) (h1 : c.first ≤ q.now) (hs2 : soonB q (bytes - max x.len 0) y = false) :
    pullR q c bytes (x :: y :: r) = (⟨c.first, nextN q.now q.interval (begins q c), begins q c, begins q c, true⟩, 1, true) := by
  unfold pullR
  rw [if_neg (by simp), if_neg (by simp [hon]), if_pos (late_of hs h0 h1)]
  rw [show (x :: y :: r).tail = y :: r from rfl, front_of hs h0, show lookB bytes (x :: y :: r) = bytes - max x.len 0 from rfl, front_of hs2 h0]
  rfl
/-- it keeps its time. -/
theorem pull_keep (hon : c.on = true) (hs : soonB q bytes x = false) (h0 : c.first ≠ 0) (h1 : c.first ≤ q.now) (hd : q.now < c.drop) :
    pullR q c bytes (x :: r) = (⟨c.first, c.drop, c.count, c.last, true⟩, 0, true) := by
  unfold pullR
  rw [if_neg (by simp), if_pos hon, if_pos (late_of hs h0 h1), front_of hs h0]
  unfold dropsR
  rw [if_neg (by show ¬ c.drop ≤ q.now; omega)]
/-- one more is dropped. -/
theorem pull_more (hon : c.on = true) (hs : soonB q bytes x = false) (h0 : c.first ≠ 0) (h1 : c.first ≤ q.now) (hd : c.drop ≤ q.now) (hs2 : soonB q (bytes - max x.len 0) y = false)
    (hn : q.now < nextN c.drop q.interval (more c.count)) : pullR q c bytes (x :: y :: r) = (⟨c.first, nextN c.drop q.interval (more c.count), more c.count, c.last, true⟩, 1, true) := by
  unfold pullR
  rw [if_neg (by simp), if_pos hon, if_pos (late_of hs h0 h1), front_of hs h0, show lookB bytes (x :: y :: r) = bytes - max x.len 0 from rfl]
  unfold dropsR
  dsimp only
  rw [if_pos hd, if_pos (late_of hs2 h0 h1), front_of hs2 h0]
  unfold dropsR
  dsimp only
  rw [if_neg (by omega)]
/-- it ends: what is there did not wait so long. -/
theorem pull_ends (hon : c.on = true) (hs : soonB q bytes x = true) : pullR q c bytes (x :: r) = (⟨0, c.drop, c.count, c.last, false⟩, 0, true) := by
  have h1 : lookL q c.first bytes (x :: r) = false := by rw [lookL_cons, hs]; rfl
  have h2 : lookF q c.first bytes (x :: r) = 0 := by rw [lookF_cons, if_pos hs]
  unfold pullR
  rw [if_neg (by simp), if_pos hon, if_neg (by rw [h1]; decide), h2]
end
theorem not_soon {q : Pl} {bytes : Int} {x : It} (h1 : q.target ≤ q.now - x.at_) (h2 : 1514 < bytes - max x.len 0) : soonB q bytes x = false := by
  unfold soonB
  rw [Bool.or_eq_false_iff]
  constructor <;> (simp; omega)
/-! ### a long queue that stands -/
theorem inv2 : invN 2 = 3037000499 := invN_one ⟨by decide, by decide⟩
theorem next_1 {a i : Int} (h0 : 0 ≤ a) (h1 : a ≤ 1125899906842624) (h2 : 0 ≤ i) (h3 : i ≤ 1073741824) : nextN a i 1 = a + i := by
  unfold nextN nextR
  rw [clamp_id h0 h1, clamp_id h2 h3, show invN 1 = 4294967296 from rfl, step_one]
  omega
theorem next_2 {a i : Int} (h0 : 0 ≤ a) (h1 : a ≤ 1125899906842624) (h2 : 100 ≤ i) (h3 : i ≤ 1100) : a < nextN a i 2 ∧ nextN a i 2 < a + i := by
  unfold nextN nextR
  rw [clamp_id h0 h1, clamp_id (by omega) (by omega), inv2]
  unfold stepR
  omega
/-- a next time is not behind, and no more than an interval on. -/
theorem next_near {a i : Int} {c : Nat} (h0 : 0 ≤ a) (h1 : a ≤ 1125899906842624) (h2 : 0 ≤ i) (h3 : i ≤ 1073741824) : a ≤ nextN a i c ∧ nextN a i c ≤ a + i := by
  unfold nextN nextR
  rw [clamp_id h0 h1, clamp_id h2 h3]
  have := step_le (i := i.toNat) (invN_le c)
  omega
section
variable {i s : Int}
def cd0 : Cd := ⟨0, 0, 0, 0, false⟩
def it0 (s : Int) : It := ⟨0, s⟩
def long6 (s : Int) : List It := [it0 s, it0 s, it0 s, it0 s, it0 s, it0 s]
theorem stand_soon (hs : 1000 ≤ s) (now : Int) (h : 1000 ≤ now) : soonB ⟨now, 10, i⟩ (100 * s) (it0 s) = false := not_soon (show (10 : Int) ≤ now - 0 by omega) (show 1514 < 100 * s - max s 0 by omega)
theorem stand_soon2 (hs : 1000 ≤ s) (now : Int) (h : 1000 ≤ now) : soonB ⟨now, 10, i⟩ (100 * s - max (it0 s).len 0) (it0 s) = false := not_soon (show (10 : Int) ≤ now - 0 by omega) (show 1514 < 100 * s - max s 0 - max s 0 by omega)
theorem stand_a (hs : 1000 ≤ s) : pullR ⟨1000, 10, i⟩ cd0 (100 * s) (long6 s) = (⟨1000 + i, 0, 0, 0, false⟩, 0, true) := pull_wait rfl (stand_soon hs 1000 (by omega)) rfl
theorem stand_b (hs : 1000 ≤ s) (hi : 100 ≤ i) : pullR ⟨1000 + i - 1, 10, i⟩ ⟨1000 + i, 0, 0, 0, false⟩ (100 * s) (long6 s) = (⟨1000 + i, 0, 0, 0, false⟩, 0, true) :=
  pull_hold rfl (stand_soon hs _ (by omega)) (show 1000 + i ≠ 0 by omega) (show 1000 + i - 1 < 1000 + i by omega)
theorem stand_d (hs : 1000 ≤ s) (hi : 100 ≤ i) (hm : i ≤ 1100) : pullR ⟨1000 + i, 10, i⟩ ⟨1000 + i, 0, 0, 0, false⟩ (100 * s) (long6 s) = (⟨1000 + i, 1000 + 2 * i, 1, 1, true⟩, 1, true) := by
  have hb : begins ⟨1000 + i, 10, i⟩ ⟨1000 + i, 0, 0, 0, false⟩ = 1 := by unfold begins; rw [if_pos (.inl (show (0 + 4294967296 - 0) % 4294967296 ≤ 1 by decide))]
  have h := pull_begin (c := ⟨1000 + i, 0, 0, 0, false⟩) (r := [it0 s, it0 s, it0 s, it0 s]) rfl (stand_soon (i := i) hs (1000 + i) (by omega)) (show 1000 + i ≠ 0 by omega) (show 1000 + i ≤ 1000 + i by omega) (stand_soon2 hs _ (by omega))
  rw [hb, next_1 (by show 0 ≤ 1000 + i; omega) (by show 1000 + i ≤ 1125899906842624; omega) (by show 0 ≤ i; omega) (by show i ≤ 1073741824; omega), show 1000 + i + i = 1000 + 2 * i by omega] at h
  exact h
theorem stand_e (hs : 1000 ≤ s) (hi : 100 ≤ i) : pullR ⟨1000 + 2 * i - 1, 10, i⟩ ⟨1000 + i, 1000 + 2 * i, 1, 1, true⟩ (100 * s) (long6 s) = (⟨1000 + i, 1000 + 2 * i, 1, 1, true⟩, 0, true) :=
  pull_keep rfl (stand_soon hs _ (by omega)) (show 1000 + i ≠ 0 by omega) (show 1000 + i ≤ 1000 + 2 * i - 1 by omega) (show 1000 + 2 * i - 1 < 1000 + 2 * i by omega)
theorem stand_f (hs : 1000 ≤ s) (hi : 100 ≤ i) (hm : i ≤ 1100) : ∃ d, d < 1000 + 3 * i ∧ pullR ⟨1000 + 2 * i, 10, i⟩ ⟨1000 + i, 1000 + 2 * i, 1, 1, true⟩ (100 * s) (long6 s) = (⟨1000 + i, d, 2, 1, true⟩, 1, true) := by
  obtain ⟨n1, n2⟩ := next_2 (a := 1000 + 2 * i) (i := i) (by omega) (by omega) hi hm
  refine ⟨nextN (1000 + 2 * i) i 2, by omega, ?_⟩
  exact pull_more (c := ⟨1000 + i, 1000 + 2 * i, 1, 1, true⟩) (r := [it0 s, it0 s, it0 s, it0 s]) rfl (stand_soon hs _ (by omega)) (show 1000 + i ≠ 0 by omega) (show 1000 + i ≤ 1000 + 2 * i by omega) (show 1000 + 2 * i ≤ 1000 + 2 * i by omega) (stand_soon2 hs _ (by omega)) n1
theorem stand_g {c : Cd} (hc : c.on = true) (bytes : Int) (r : List It) : pullR ⟨1000 + 2 * i, 10, i⟩ c bytes (⟨1000 + 2 * i, s⟩ :: r) = (⟨0, c.drop, c.count, c.last, false⟩, 0, true) :=
  pull_ends hc (by unfold soonB; simp)
/-! ### what it remembers -/
def cdM (gap i : Int) (n : Nat) : Cd := ⟨1073741823, 1073741824 - gap * i, n + 5, 3, false⟩
theorem means {gap : Int} {n : Nat} (hn : 2 ≤ n) (hm : n ≤ 1001) (h0 : 0 ≤ gap) (h1 : gap < 32) (hi : 1 ≤ i) (hi2 : i ≤ 1000) :
    ∃ d, 1073741823 < d ∧ d ≤ 1073741824 + i ∧ pullR ⟨1073741824, 10, i⟩ (cdM gap i n) 1048576 [⟨0, 2000⟩, ⟨0, 2000⟩, ⟨0, 2000⟩] =
      (⟨1073741823, d, if gap < 16 then n + 2 else 1, if gap < 16 then n + 2 else 1, true⟩, 1, true) := by
  have hb : begins ⟨1073741824, 10, i⟩ (cdM gap i n) = if gap < 16 then n + 2 else 1 := by
    have e1 : (n + 5 + 4294967296 - 3) % 4294967296 = n + 2 := by omega
    unfold begins cdM
    dsimp only
    rw [e1]
    by_cases h : gap < 16
    · have h2 : gap * i ≤ 15 * i := Int.mul_le_mul_of_nonneg_right (by omega) (by omega)
      rw [if_pos h, if_neg (by omega)]
    · have h2 : 16 * i ≤ gap * i := Int.mul_le_mul_of_nonneg_right (by omega) (by omega)
      rw [if_neg h, if_pos (.inr (by omega))]
  have h := pull_begin (q := ⟨1073741824, 10, i⟩) (c := cdM gap i n) (bytes := 1048576) (x := ⟨0, 2000⟩) (y := ⟨0, 2000⟩) (r := [⟨0, 2000⟩]) rfl (not_soon (show (10 : Int) ≤ 1073741824 - 0 by decide) (show (1514 : Int) < 1048576 - max 2000 0 by decide)) (show (1073741823 : Int) ≠ 0 by decide) (show (1073741823 : Int) ≤ 1073741824 by decide) (not_soon (show (10 : Int) ≤ 1073741824 - 0 by decide) (show (1514 : Int) < 1048576 - max 2000 0 - max 2000 0 by decide))
  rw [hb] at h
  obtain ⟨n1, n2⟩ := next_near (a := 1073741824) (i := i) (c := if gap < 16 then n + 2 else 1) (by omega) (by omega) (by omega) (by omega)
  exact ⟨_, by omega, n2, h⟩
end
end Go.Proofs.Ytmajbkhbkepebaa
