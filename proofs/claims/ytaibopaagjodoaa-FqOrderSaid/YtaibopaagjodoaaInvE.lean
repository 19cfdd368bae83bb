/-
  CONTRACTS of the reference's clamp and Next, of inv.Next.
-/
import Derived.Test.YtaibopaagjodoaaInvD
namespace Go.Proofs.Ytaibopaagjodoaa
open Go.ChangeShapes Go.WideShapes Go.ChangeAt Go.RowKit
set_option linter.unusedVariables false
set_option linter.unusedSimpArgs false

set_option maxRecDepth 100000 in
theorem clamp_any (n lo hi : Int) (w : World) :
    Calls Try.prog 62 #[.int .i64 n, .int .i64 lo, .int .i64 hi] w fun e w' => e = .returned (.int .i64 (clampR n lo hi)) ∧ w = w' := by
  rcases Int.lt_or_le n lo with h | h
  · rcases Int.lt_or_le hi lo with h2 | h2
    · have HE := Lib.hid (show clampR n lo hi = hi by unfold clampR; omega)
      go_enter Try.func62, Try.ntmps62
      go_wp2
      go_ret
      exact ⟨ret_int HE.out.symm, rfl⟩
    · have HE := Lib.hid (show clampR n lo hi = lo by unfold clampR; omega)
      go_enter Try.func62, Try.ntmps62
      go_wp2
      go_ret
      exact ⟨ret_int HE.out.symm, rfl⟩
  · rcases Int.lt_or_le hi n with h2 | h2
    · have HE := Lib.hid (show clampR n lo hi = hi by unfold clampR; omega)
      go_enter Try.func62, Try.ntmps62
      go_wp2
      go_ret
      exact ⟨ret_int HE.out.symm, rfl⟩
    · have HE := Lib.hid (show clampR n lo hi = n by unfold clampR; omega)
      go_enter Try.func62, Try.ntmps62
      go_wp2
      go_ret
      exact ⟨ret_int HE.out.symm, rfl⟩

/-- a next time, where both are cut. -/
theorem next_of {t i t' : Int} {n x c m : Nat} (ht : clampR t 0 1125899906842624 = t') (hi : clampR i 0 1073741824 = n) (hx : invN c = x) (hm : n * x = m) : nextN t i c = t' + m / 4294967296 := by
  unfold nextN nextR stepR
  rw [ht, hi, hx, Int.toNat_natCast, hm]
  rfl
theorem prod_le {n x : Nat} (hn : n ≤ 1073741824) (hx : x ≤ 4294967296) : n * x ≤ 4611686018427387904 := Nat.le_trans (Nat.mul_le_mul hn hx) (by decide)

set_option maxRecDepth 100000 in
theorem refnext_any (t i : Int) (c : Nat) (w : World) (hc : c < 4294967296) :
    Calls Try.prog 64 #[.int .i64 t, .int .i64 i, .int .u32 c] w fun e w' => e = .returned (.int .i64 (nextN t i c)) ∧ w = w' := by
  have HC := Lib.hid hc
  clear hc
  obtain ⟨n, hn⟩ := Int.eq_ofNat_of_zero_le (clamp_in (n := i) (low := 0) (high := 1073741824) (by decide)).1
  have hn1 : n ≤ 1073741824 := by have := (clamp_in (n := i) (low := 0) (high := 1073741824) (by decide)).2; omega
  obtain ⟨s, hs⟩ := Int.eq_ofNat_of_zero_le (clamp_in (n := t) (low := 0) (high := 1125899906842624) (by decide)).1
  have hs1 : s ≤ 1125899906842624 := by have := (clamp_in (n := t) (low := 0) (high := 1125899906842624) (by decide)).2; omega
  have hx := invN_le c
  obtain ⟨m, hm⟩ : ∃ m, n * invN c = m := ⟨_, rfl⟩
  have hm1 : m ≤ 4611686018427387904 := by rw [← hm]; exact prod_le hn1 hx
  have HE := Lib.hid (next_of hs hn rfl hm)
  have HS := Lib.hid hs
  have HN := Lib.hid hn
  have HM := Lib.hid hm
  have HX := Lib.hid hx
  have HN1 := Lib.hid hn1
  have hmI : (m : Int) ≤ 4611686018427387904 := by omega
  have hnI : (n : Int) ≤ 1073741824 := by omega
  have hsI : (s : Int) ≤ 1125899906842624 := by omega
  have hor : bits .or .u64 0 ((m : Int) / 4294967296) = (m : Int) / 4294967296 := by
    have e := bits_or_u64_nat 0 (m / 4294967296) (by omega) (by omega)
    rw [Nat.zero_or] at e
    exact e
  clear hs hn hm hx hn1 hs1 hm1
  go_enter Try.func64, Try.ntmps64
  go_wp2_with (fail)
  refine (clamp_any i 0 1073741824 _).mono ?_
  rintro e w1 ⟨rfl, rfl⟩
  rw [HN.out]
  go_wp2_with (fail)
  refine (refinv_any c _ HC.out).mono ?_
  rintro e w1 ⟨rfl, rfl⟩
  go_wp2_with (fail)
  refine (mul64_any n (invN c) _ HN1.out HX.out).mono ?_
  rintro e w1 ⟨rfl, rfl⟩
  rw [HM.out]
  go_wp2_with (fail)
  refine (clamp_any t 0 1125899906842624 _).mono ?_
  rintro e w1 ⟨rfl, rfl⟩
  rw [HS.out]
  go_wp2
  go_ret
  exact ⟨ret_int HE.out.symm, rfl⟩

set_option maxRecDepth 100000 in
theorem next_any (t i : Int) (c : Nat) (w : World) (hc : c < 4294967296) :
    Calls Try.prog 76 #[.int .i64 t, .int .i64 i, .int .u32 c] w fun e w' => e = .returned (.int .i64 (nextN t i c)) ∧ w = w' := by
  have HC := Lib.hid hc
  have hx := invN_le c
  clear hc
  rcases (by omega : t < 0 ∨ (0 ≤ t ∧ t ≤ 1125899906842624) ∨ 1125899906842624 < t) with ht | ht | ht
  · have HT := Lib.hid (show clampR t 0 1125899906842624 = 0 by unfold clampR; omega)
    have h1 : t < 0 := by omega
    rcases (by omega : i < 0 ∨ (0 ≤ i ∧ i ≤ 1073741824) ∨ 1073741824 < i) with hi | hi | hi
    · have HI := Lib.hid (show clampR i 0 1073741824 = ((0 : Nat) : Int) by unfold clampR; omega)
      have g1 : i < 0 := by omega
      obtain ⟨x, hxe⟩ : ∃ x, invN c = x := ⟨_, rfl⟩
      rw [hxe] at hx
      have HXE := Lib.hid hxe
      have hm : 0 * x = 0 * x := rfl
      have HE := Lib.hid (next_of HT.out HI.out hxe hm)
      have hxI : (x : Int) ≤ 4294967296 := by omega
      clear ht hi hx hxe hm
      go_enter Try.func76, Try.ntmps76
      go_wp2_with (fail)
      refine (inv_any c _ HC.out).mono ?_
      rintro e w1 ⟨rfl, rfl⟩
      rw [HXE.out]
      go_wp2
      go_ret
      refine ⟨ret_int ?_, rfl⟩
      rw [HE.out]
      try omega
    · obtain ⟨n, rfl⟩ := Int.eq_ofNat_of_zero_le hi.1
      have HI := Lib.hid (show clampR (n : Int) 0 1073741824 = ((n : Nat) : Int) by unfold clampR; omega)
      have g1 : ¬ (n : Int) < 0 := by omega
      have g2 : ¬ (1073741824 : Int) < (n : Int) := by omega
      obtain ⟨x, hxe⟩ : ∃ x, invN c = x := ⟨_, rfl⟩
      rw [hxe] at hx
      have HXE := Lib.hid hxe
      obtain ⟨m, hm⟩ : ∃ m, n * x = m := ⟨_, rfl⟩
      have hm1 : m ≤ 4611686018427387904 := by rw [← hm]; exact prod_le (by omega) hx
      have hmI : (m : Int) ≤ 4611686018427387904 := by omega
      have hmul : (n : Int) * (x : Int) = (m : Int) := by rw [← hm, Int.natCast_mul]
      have HE := Lib.hid (next_of HT.out HI.out hxe hm)
      have hxI : (x : Int) ≤ 4294967296 := by omega
      clear ht hi hx hxe hm hm1
      go_enter Try.func76, Try.ntmps76
      go_wp2_with (fail)
      refine (inv_any c _ HC.out).mono ?_
      rintro e w1 ⟨rfl, rfl⟩
      rw [HXE.out]
      go_wp2
      go_ret
      refine ⟨ret_int ?_, rfl⟩
      rw [HE.out]
      try omega
    · have HI := Lib.hid (show clampR i 0 1073741824 = ((1073741824 : Nat) : Int) by unfold clampR; omega)
      have g1 : ¬ i < 0 := by omega
      have g2 : 1073741824 < i := by omega
      obtain ⟨x, hxe⟩ : ∃ x, invN c = x := ⟨_, rfl⟩
      rw [hxe] at hx
      have HXE := Lib.hid hxe
      have hm : 1073741824 * x = 1073741824 * x := rfl
      have HE := Lib.hid (next_of HT.out HI.out hxe hm)
      have hxI : (x : Int) ≤ 4294967296 := by omega
      clear ht hi hx hxe hm
      go_enter Try.func76, Try.ntmps76
      go_wp2_with (fail)
      refine (inv_any c _ HC.out).mono ?_
      rintro e w1 ⟨rfl, rfl⟩
      rw [HXE.out]
      go_wp2
      go_ret
      refine ⟨ret_int ?_, rfl⟩
      rw [HE.out]
      try omega
  · have HT := Lib.hid (show clampR t 0 1125899906842624 = t by unfold clampR; omega)
    have h1 : ¬ t < 0 := by omega
    have h2 : ¬ 1125899906842624 < t := by omega
    rcases (by omega : i < 0 ∨ (0 ≤ i ∧ i ≤ 1073741824) ∨ 1073741824 < i) with hi | hi | hi
    · have HI := Lib.hid (show clampR i 0 1073741824 = ((0 : Nat) : Int) by unfold clampR; omega)
      have g1 : i < 0 := by omega
      obtain ⟨x, hxe⟩ : ∃ x, invN c = x := ⟨_, rfl⟩
      rw [hxe] at hx
      have HXE := Lib.hid hxe
      have hm : 0 * x = 0 * x := rfl
      have HE := Lib.hid (next_of HT.out HI.out hxe hm)
      have hxI : (x : Int) ≤ 4294967296 := by omega
      clear ht hi hx hxe hm
      go_enter Try.func76, Try.ntmps76
      go_wp2_with (fail)
      refine (inv_any c _ HC.out).mono ?_
      rintro e w1 ⟨rfl, rfl⟩
      rw [HXE.out]
      go_wp2
      go_ret
      refine ⟨ret_int ?_, rfl⟩
      rw [HE.out]
      try omega
    · obtain ⟨n, rfl⟩ := Int.eq_ofNat_of_zero_le hi.1
      have HI := Lib.hid (show clampR (n : Int) 0 1073741824 = ((n : Nat) : Int) by unfold clampR; omega)
      have g1 : ¬ (n : Int) < 0 := by omega
      have g2 : ¬ (1073741824 : Int) < (n : Int) := by omega
      obtain ⟨x, hxe⟩ : ∃ x, invN c = x := ⟨_, rfl⟩
      rw [hxe] at hx
      have HXE := Lib.hid hxe
      obtain ⟨m, hm⟩ : ∃ m, n * x = m := ⟨_, rfl⟩
      have hm1 : m ≤ 4611686018427387904 := by rw [← hm]; exact prod_le (by omega) hx
      have hmI : (m : Int) ≤ 4611686018427387904 := by omega
      have hmul : (n : Int) * (x : Int) = (m : Int) := by rw [← hm, Int.natCast_mul]
      have HE := Lib.hid (next_of HT.out HI.out hxe hm)
      have hxI : (x : Int) ≤ 4294967296 := by omega
      clear ht hi hx hxe hm hm1
      go_enter Try.func76, Try.ntmps76
      go_wp2_with (fail)
      refine (inv_any c _ HC.out).mono ?_
      rintro e w1 ⟨rfl, rfl⟩
      rw [HXE.out]
      go_wp2
      go_ret
      refine ⟨ret_int ?_, rfl⟩
      rw [HE.out]
      try omega
    · have HI := Lib.hid (show clampR i 0 1073741824 = ((1073741824 : Nat) : Int) by unfold clampR; omega)
      have g1 : ¬ i < 0 := by omega
      have g2 : 1073741824 < i := by omega
      obtain ⟨x, hxe⟩ : ∃ x, invN c = x := ⟨_, rfl⟩
      rw [hxe] at hx
      have HXE := Lib.hid hxe
      have hm : 1073741824 * x = 1073741824 * x := rfl
      have HE := Lib.hid (next_of HT.out HI.out hxe hm)
      have hxI : (x : Int) ≤ 4294967296 := by omega
      clear ht hi hx hxe hm
      go_enter Try.func76, Try.ntmps76
      go_wp2_with (fail)
      refine (inv_any c _ HC.out).mono ?_
      rintro e w1 ⟨rfl, rfl⟩
      rw [HXE.out]
      go_wp2
      go_ret
      refine ⟨ret_int ?_, rfl⟩
      rw [HE.out]
      try omega
  · have HT := Lib.hid (show clampR t 0 1125899906842624 = 1125899906842624 by unfold clampR; omega)
    have h1 : ¬ t < 0 := by omega
    have h2 : 1125899906842624 < t := by omega
    rcases (by omega : i < 0 ∨ (0 ≤ i ∧ i ≤ 1073741824) ∨ 1073741824 < i) with hi | hi | hi
    · have HI := Lib.hid (show clampR i 0 1073741824 = ((0 : Nat) : Int) by unfold clampR; omega)
      have g1 : i < 0 := by omega
      obtain ⟨x, hxe⟩ : ∃ x, invN c = x := ⟨_, rfl⟩
      rw [hxe] at hx
      have HXE := Lib.hid hxe
      have hm : 0 * x = 0 * x := rfl
      have HE := Lib.hid (next_of HT.out HI.out hxe hm)
      have hxI : (x : Int) ≤ 4294967296 := by omega
      clear ht hi hx hxe hm
      go_enter Try.func76, Try.ntmps76
      go_wp2_with (fail)
      refine (inv_any c _ HC.out).mono ?_
      rintro e w1 ⟨rfl, rfl⟩
      rw [HXE.out]
      go_wp2
      go_ret
      refine ⟨ret_int ?_, rfl⟩
      rw [HE.out]
      try omega
    · obtain ⟨n, rfl⟩ := Int.eq_ofNat_of_zero_le hi.1
      have HI := Lib.hid (show clampR (n : Int) 0 1073741824 = ((n : Nat) : Int) by unfold clampR; omega)
      have g1 : ¬ (n : Int) < 0 := by omega
      have g2 : ¬ (1073741824 : Int) < (n : Int) := by omega
      obtain ⟨x, hxe⟩ : ∃ x, invN c = x := ⟨_, rfl⟩
      rw [hxe] at hx
      have HXE := Lib.hid hxe
      obtain ⟨m, hm⟩ : ∃ m, n * x = m := ⟨_, rfl⟩
      have hm1 : m ≤ 4611686018427387904 := by rw [← hm]; exact prod_le (by omega) hx
      have hmI : (m : Int) ≤ 4611686018427387904 := by omega
      have hmul : (n : Int) * (x : Int) = (m : Int) := by rw [← hm, Int.natCast_mul]
      have HE := Lib.hid (next_of HT.out HI.out hxe hm)
      have hxI : (x : Int) ≤ 4294967296 := by omega
      clear ht hi hx hxe hm hm1
      go_enter Try.func76, Try.ntmps76
      go_wp2_with (fail)
      refine (inv_any c _ HC.out).mono ?_
      rintro e w1 ⟨rfl, rfl⟩
      rw [HXE.out]
      go_wp2
      go_ret
      refine ⟨ret_int ?_, rfl⟩
      rw [HE.out]
      try omega
    · have HI := Lib.hid (show clampR i 0 1073741824 = ((1073741824 : Nat) : Int) by unfold clampR; omega)
      have g1 : ¬ i < 0 := by omega
      have g2 : 1073741824 < i := by omega
      obtain ⟨x, hxe⟩ : ∃ x, invN c = x := ⟨_, rfl⟩
      rw [hxe] at hx
      have HXE := Lib.hid hxe
      have hm : 1073741824 * x = 1073741824 * x := rfl
      have HE := Lib.hid (next_of HT.out HI.out hxe hm)
      have hxI : (x : Int) ≤ 4294967296 := by omega
      clear ht hi hx hxe hm
      go_enter Try.func76, Try.ntmps76
      go_wp2_with (fail)
      refine (inv_any c _ HC.out).mono ?_
      rintro e w1 ⟨rfl, rfl⟩
      rw [HXE.out]
      go_wp2
      go_ret
      refine ⟨ret_int ?_, rfl⟩
      rw [HE.out]
      try omega
end Go.Proofs.Ytaibopaagjodoaa
