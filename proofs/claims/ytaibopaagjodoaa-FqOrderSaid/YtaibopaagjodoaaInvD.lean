/-
  CONTRACTS of math/bits.Mul64 (of an interval by one over a root), of inv.Inv, inv.Next, of the reference's Inv, clamp, Next.
-/
import Derived.Test.YtaibopaagjodoaaInvA
import Derived.Test.YtaibopaagjodoaaInvC
namespace Go.Proofs.Ytaibopaagjodoaa
open Go.ChangeShapes Go.WideShapes Go.ChangeAt Go.RowKit
set_option linter.unusedVariables false
set_option linter.unusedSimpArgs false

theorem and_mask (a : Nat) (h : a < 18446744073709551616) : bits .and .u64 (a : Int) 4294967295 = ((a % 4294967296 : Nat) : Int) := by
  have e := bits_and_u64_nat a 4294967295 h (by omega)
  have e2 : a &&& 4294967295 = a % 4294967296 := by
    rw [show (4294967295 : Nat) = 2 ^ 32 - 1 from rfl, Nat.and_two_pow_sub_one_eq_mod]
  rw [e2] at e
  exact e
structure Muls (a b : Nat) (Y0 Y1 W T V P : Int) : Prop where
  x0 : bits .and .u64 (a : Int) 4294967295 = a
  x1 : (a : Int) / 4294967296 = 0
  y0 : bits .and .u64 (b : Int) 4294967295 = Y0
  y1 : (b : Int) / 4294967296 = Y1
  w : IntKind.u64.wrap ((a : Int) * Y0) = W
  t : W / 4294967296 = T
  tt : IntKind.u64.wrap T = T
  t1 : bits .and .u64 T 4294967295 = T
  t2 : T / 4294967296 = 0
  p : IntKind.u64.wrap ((a : Int) * Y1) = P
  v : IntKind.u64.wrap (T + P) = V
  v1 : V / 4294967296 = 0
  lo : IntKind.u64.wrap ((a : Int) * (b : Int)) = ((a * b : Nat) : Int)
theorem muls_of {a b : Nat} (ha : a ≤ 1073741824) (hb : b ≤ 4294967296) : ∃ Y0 Y1 W T V P, Muls a b Y0 Y1 W T V P := by
  have hab : a * b ≤ 1073741824 * 4294967296 := Nat.mul_le_mul ha hb
  have hlo : IntKind.u64.wrap ((a : Int) * (b : Int)) = ((a * b : Nat) : Int) := by
    rw [← Int.natCast_mul]; generalize a * b = z at *; exact u64_in (by omega) (by omega)
  have hx0 : bits .and .u64 (a : Int) 4294967295 = a := by rw [and_mask a (by omega), Nat.mod_eq_of_lt (by omega)]
  rcases Nat.lt_or_ge b 4294967296 with h | h
  · obtain ⟨z, hz⟩ : ∃ z, z = a * b := ⟨_, rfl⟩
    rw [← hz] at hlo hab
    refine ⟨b, 0, z, (z / 4294967296 : Nat), (z / 4294967296 : Nat), 0, ?_⟩
    have hz2 : z / 4294967296 < 4294967296 := by omega
    exact {
      x0 := hx0
      x1 := by omega
      y0 := by rw [and_mask b (by omega), Nat.mod_eq_of_lt h]
      y1 := by omega
      w := hlo
      t := by omega
      tt := u64_in (by omega) (by omega)
      t1 := by rw [and_mask _ (by omega), Nat.mod_eq_of_lt (by omega)]
      t2 := by omega
      p := by rw [Int.mul_zero]; exact u64_in (by omega) (by omega)
      v := by rw [Int.add_zero]; exact u64_in (by omega) (by omega)
      v1 := by omega
      lo := by rw [← hz]; exact hlo }
  · obtain rfl : b = 4294967296 := by omega
    refine ⟨0, 1, 0, 0, a, a, ?_⟩
    exact {
      x0 := hx0
      x1 := by omega
      y0 := by decide
      y1 := by decide
      w := by rw [Int.mul_zero]; exact u64_in (by omega) (by omega)
      t := by omega
      tt := u64_in (by omega) (by omega)
      t1 := by decide
      t2 := by omega
      p := by rw [Int.mul_one]; exact u64_in (by omega) (by omega)
      v := by rw [Int.zero_add]; exact u64_in (by omega) (by omega)
      v1 := by omega
      lo := hlo }

set_option maxRecDepth 100000 in
set_option maxHeartbeats 4000000 in
theorem mul64_any (a b : Nat) (w : World) (ha : a ≤ 1073741824) (hb : b ≤ 4294967296) :
    Calls Try.prog 72 #[.int .u64 a, .int .u64 b] w fun e w' => e = .returned (.tuple #[.int .u64 0, .int .u64 (a * b : Nat)]) ∧ w = w' := by
  obtain ⟨Y0, Y1, W, T, V, P, hx0, hx1, hy0, hy1, hw, ht, htt, ht1, ht2, hp, hv, hv1, hlo⟩ := muls_of ha hb
  generalize a * b = z at *
  clear ha hb
  go_enter Try.func72, Try.ntmps72
  go_wp2
  go_ret2
  exact ⟨rfl, rfl⟩

set_option maxRecDepth 100000 in
theorem inv_any (c : Nat) (w : World) (hc : c < 4294967296) :
    Calls Try.prog 78 #[.int .u32 c] w fun e w' => e = .returned (.int .u64 (invN c : Nat)) ∧ w = w' := by
  by_cases h : c ≤ 1
  · have HE := Lib.hid (show invN c = 4294967296 by unfold invN; rw [if_pos h])
    have h' : (c : Int) ≤ 1 := by omega
    clear h
    go_enter Try.func78, Try.ntmps78
    go_wp2
    go_ret
    exact ⟨ret_int (by rw [HE.out]; rfl), rfl⟩
  · have HE := Lib.hid (show invN c = rootN (18446744073709551616 / c) by unfold invN; rw [if_neg h])
    have h' : ¬ (c : Int) ≤ 1 := by omega
    have H2 := Lib.hid (show 2 ≤ c by omega)
    have HC := Lib.hid hc
    have hcc : (c : Int) < 4294967296 := by omega
    have HQ := Lib.hid (show 18446744073709551616 / c < 18446744073709551616 from Nat.lt_of_le_of_lt (Nat.div_le_div_left H2.out (by omega)) (by decide))
    clear h hc
    go_enter Try.func78, Try.ntmps78
    go_wp2_with (fail)
    refine (div64_any c _ H2.out HC.out).mono ?_
    rintro e w' ⟨⟨r, rfl⟩, rfl⟩
    generalize 18446744073709551616 / c = q at *
    go_wp2_with (fail)
    refine (root_any q _ HQ.out).mono ?_
    rintro e w' ⟨rfl, rfl⟩
    go_wp2
    go_ret
    exact ⟨ret_int (by rw [HE.out]), rfl⟩

set_option maxRecDepth 100000 in
theorem refinv_any (c : Nat) (w : World) (hc : c < 4294967296) :
    Calls Try.prog 73 #[.int .u32 c] w fun e w' => e = .returned (.int .u64 (invN c : Nat)) ∧ w = w' := by
  by_cases h : c ≤ 1
  · have HE := Lib.hid (show invN c = 4294967296 by unfold invN; rw [if_pos h])
    have h' : (c : Int) ≤ 1 := by omega
    clear h
    go_enter Try.func73, Try.ntmps73
    go_wp2
    go_ret
    exact ⟨ret_int (by rw [HE.out]; rfl), rfl⟩
  · have HE := Lib.hid (show invN c = rootN (18446744073709551616 / c) by unfold invN; rw [if_neg h])
    have HQ64 := Lib.hid (quo_64 (show 1 < c by omega) (show c ≤ 4294967295 by omega))
    have h' : ¬ (c : Int) ≤ 1 := by omega
    have h0' : ¬ (c : Int) = 0 := by omega
    obtain ⟨q, hq⟩ : ∃ q, q = 18446744073709551615 / c := ⟨_, rfl⟩
    obtain ⟨r, hr⟩ : ∃ r, r = 18446744073709551615 % c := ⟨_, rfl⟩
    obtain ⟨d, hd⟩ : ∃ d, d = c - 1 := ⟨_, rfl⟩
    have hq1 : q ≤ 9223372036854775807 := by rw [hq]; exact Nat.le_trans (Nat.div_le_div_left (show 2 ≤ c by omega) (by omega)) (by decide)
    have hrc : r < c := by rw [hr]; exact Nat.mod_lt _ (by omega)
    rw [← hq, ← hr, ← hd] at HQ64
    have hc0 : ¬ c = 0 := by omega
    have gq : (18446744073709551615 : Int) / (c : Int) = (q : Int) := by
      rw [show (18446744073709551615 : Int) = ((18446744073709551615 : Nat) : Int) from rfl, ← Int.natCast_ediv, ← hq]
    have gr : (18446744073709551615 : Int) % (c : Int) = (r : Int) := by
      rw [show (18446744073709551615 : Int) = ((18446744073709551615 : Nat) : Int) from rfl, ← Int.natCast_emod, ← hr]
    have hdI : (c : Int) - 1 = (d : Int) := by omega
    have hcc : (c : Int) < 4294967296 := by omega
    have hqq : (q : Int) ≤ 9223372036854775807 := by omega
    have fq2 : IntKind.u64.wrap ((q : Int) + 1) = ((q + 1 : Nat) : Int) := by
      rw [show (q : Int) + 1 = ((q + 1 : Nat) : Int) by omega]
      exact u64_in (by omega) (by omega)
    have HQ := Lib.hid hq1
    clear h hq hr hq1 hrc hc hd
    go_enter Try.func73, Try.ntmps73
    by_cases hh : r = d
    · rw [if_pos hh] at HQ64
      have ht : ((18446744073709551615 : Int) % (c : Int) == (c : Int) - 1) = true := by rw [gr, hdI, hh]; simp
      clear hh gr hdI
      go_wp2_with (fail)
      refine (refroot_any (q + 1) _ (by have := HQ.out; omega)).mono ?_
      rintro e w' ⟨rfl, rfl⟩
      go_wp2
      go_ret
      exact ⟨ret_int (by rw [HE.out, HQ64.out]), rfl⟩
    · rw [if_neg hh] at HQ64
      have ht : ((18446744073709551615 : Int) % (c : Int) == (c : Int) - 1) = false := by rw [gr, hdI]; simp; omega
      clear hh gr hdI
      go_wp2_with (fail)
      refine (refroot_any q _ (by have := HQ.out; omega)).mono ?_
      rintro e w' ⟨rfl, rfl⟩
      go_wp2
      go_ret
      exact ⟨ret_int (by rw [HE.out, HQ64.out]), rfl⟩
end Go.Proofs.Ytaibopaagjodoaa
