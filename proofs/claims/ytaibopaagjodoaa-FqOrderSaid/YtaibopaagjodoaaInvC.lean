/-
  CONTRACT of math/bits.LeadingZeros64, of math/bits.Div64 of 2^64 by a count.
-/
import Derived.Test.YtaibopaagjodoaaInvB
namespace Go.Proofs.Ytaibopaagjodoaa
open Go.ChangeShapes Go.WideShapes Go.ChangeAt Go.RowKit
set_option linter.unusedVariables false
set_option linter.unusedSimpArgs false

set_option maxRecDepth 100000 in
set_option maxHeartbeats 4000000 in
theorem lead_any (c : Nat) (w : World) (h0 : 1 ≤ c) (h1 : c < 4294967296) :
    Calls Try.prog 81 #[.int .u64 c] w fun e w' => (∃ L : Nat, IsLen c L ∧ e = .returned (.int .i64 (64 - (L : Int)))) ∧ w = w' := by
  have H0 := Lib.hid h0
  have H1 := Lib.hid h1
  clear h0 h1
  go_enter Try.func81, Try.ntmps81
  go_wp2_with (fail)
  refine (len64_any c _ H0.out H1.out).mono ?_
  rintro e w' ⟨⟨L, hL, rfl⟩, rfl⟩
  have HL := Lib.hid hL
  have a1 : 1 ≤ L := hL.1
  have a2 : L ≤ 32 := hL.2.1
  clear hL
  go_wp2
  go_ret
  exact ⟨⟨L, HL.out, rfl⟩, rfl⟩

/-! ### the maths of a division of 2^64, half by half -/
theorem u64_in {n : Int} (h0 : 0 ≤ n) (h1 : n < 18446744073709551616) : IntKind.u64.wrap n = n := by rw [IntKind.wrap_u64]; omega
theorem and_low (d : Nat) (h : d < 4294967296) : bits .and .u64 ((d * 4294967296 : Nat) : Int) 4294967295 = 0 := by
  have e := bits_and_u64_nat (d * 4294967296) 4294967295 (by omega) (by omega)
  have e2 : (d * 4294967296) &&& 4294967295 = 0 := by
    rw [show (4294967295 : Nat) = 2 ^ 32 - 1 from rfl, Nat.and_two_pow_sub_one_eq_mod]; omega
  rw [e2] at e
  exact e
theorem or_zero (u : Nat) (h : u < 18446744073709551616) : bits .or .u64 (u : Int) 0 = u := by
  have e := bits_or_u64_nat u 0 h (by omega)
  simpa using e
structure Divs (c s : Nat) (Y D U Q M R Z A B P M2 R2 Z2 G N : Int) : Prop where
  y : IntKind.u64.wrap ((c : Int) * 2 ^ s) = Y
  d : Y / 4294967296 = D
  lo : bits .and .u64 Y 4294967295 = 0
  u : IntKind.u64.wrap (2 ^ s) = U
  or : bits .or .u64 U 0 = U
  d0 : ¬ D = 0
  q : IntKind.u64.wrap (U.tdiv D) = Q
  m : IntKind.u64.wrap (Q * D) = M
  r : IntKind.u64.wrap (U - M) = R
  q1 : ¬ 4294967296 ≤ Q
  z : IntKind.u64.wrap (4294967296 * R) = Z
  z0 : ¬ Z < 0
  zz : IntKind.u64.wrap Z = Z
  a : IntKind.u64.wrap (U * 4294967296) = A
  aa : IntKind.u64.wrap A = A
  b : IntKind.u64.wrap (Q * Y) = B
  ab : IntKind.u64.wrap (A - B) = Z
  p : IntKind.u64.wrap (Z.tdiv D) = P
  m2 : IntKind.u64.wrap (P * D) = M2
  r2 : IntKind.u64.wrap (Z - M2) = R2
  p1 : ¬ 4294967296 ≤ P
  z2 : IntKind.u64.wrap (4294967296 * R2) = Z2
  z20 : ¬ Z2 < 0
  zz2 : IntKind.u64.wrap Z2 = Z2
  g : IntKind.u64.wrap (Q * 4294967296) = G
  n : IntKind.u64.wrap (G + P) = N
  n' : N = (18446744073709551616 / c : Nat)

theorem wrap_nn (n : Int) : ¬ IntKind.u64.wrap n < 0 := by rw [IntKind.wrap_u64]; omega
theorem wrap_wrap (n : Int) : IntKind.u64.wrap (IntKind.u64.wrap n) = IntKind.u64.wrap n := by simp only [IntKind.wrap_u64]; omega
theorem divs_of {c k : Nat} (h0 : 2 ≤ c) (hL : IsLen c (32 - k)) (hk : k ≤ 30) : ∃ Y D U Q M R Z A B P M2 R2 Z2 G N, Divs c (32 + k) Y D U Q M R Z A B P M2 R2 Z2 G N := by
  obtain ⟨T, hT⟩ : ∃ T, T = 2 ^ k := ⟨_, rfl⟩
  have hT0 : 0 < T := by rw [hT]; exact Nat.two_pow_pos k
  have hd : c * T < 4294967296 := by
    have h := hL.2.2.2
    have e : 2 ^ (32 - k) * 2 ^ k = 4294967296 := by rw [← Nat.pow_add, show 32 - k + k = 32 by omega]
    rw [hT, ← e]
    exact Nat.mul_lt_mul_of_pos_right h (Nat.two_pow_pos k)
  have hs : (2 : Int) ^ (32 + k) = ((4294967296 * T : Nat) : Int) := by
    rw [hT, Int.pow_add, Int.natCast_mul, Int.natCast_pow, show (2 : Int) ^ 32 = ((4294967296 : Nat) : Int) by decide]
    rfl
  have hTc : T ≤ 2147483648 := by
    have h1 : 2 * T ≤ c * T := Nat.mul_le_mul_right _ h0
    omega
  have hcT : (c : Int) * (4294967296 * T : Nat) = ((c * T * 4294967296 : Nat) : Int) := by
    rw [← Int.natCast_mul, Nat.mul_assoc c T, Nat.mul_comm T]
  obtain ⟨d, hdd⟩ : ∃ d, d = c * T := ⟨_, rfl⟩
  have hd0 : 0 < d := by rw [hdd]; exact Nat.mul_pos (by omega) hT0
  obtain ⟨q, hq⟩ : ∃ q, q = 4294967296 / c := ⟨_, rfl⟩
  obtain ⟨r, hr⟩ : ∃ r, r = 4294967296 % c := ⟨_, rfl⟩
  have hdm : c * q + r = 4294967296 := by rw [hq, hr]; exact Nat.div_add_mod _ _
  have hrc : r < c := by rw [hr]; exact Nat.mod_lt _ (by omega)
  have hq1 : q ≤ 2147483648 := by rw [hq]; exact Nat.le_trans (Nat.div_le_div_left h0 (by omega)) (by decide)
  have hqd : q * d + r * T = 4294967296 * T := by rw [hdd, ← hdm, Nat.add_mul, ← Nat.mul_assoc, Nat.mul_comm q c]
  have hqU : 4294967296 * T / d = q := by rw [hdd, hq, Nat.mul_div_mul_right _ _ hT0]
  have hrT : r * T < d := by rw [hdd]; exact Nat.mul_lt_mul_of_pos_right hrc hT0
  obtain ⟨p, hp⟩ : ∃ p, p = 4294967296 * r / c := ⟨_, rfl⟩
  have hpZ : 4294967296 * (r * T) / d = p := by rw [hdd, hp, ← Nat.mul_assoc, Nat.mul_div_mul_right _ _ hT0]
  have hp1 : p < 4294967296 := by
    rw [hp]; exact (Nat.div_lt_iff_lt_mul (by omega)).2 (by omega)
  have hn : q * 4294967296 + p = 18446744073709551616 / c := by
    have e : 18446744073709551616 = c * (q * 4294967296) + 4294967296 * r := by
      have : 18446744073709551616 = (c * q + r) * 4294967296 := by rw [hdm]
      rw [this, Nat.add_mul, Nat.mul_assoc, Nat.mul_comm r]
    rw [e, Nat.mul_add_div (by omega), hp]
  have hqY : (q : Int) * (d * 4294967296 : Nat) = ((q * d * 4294967296 : Nat) : Int) := by rw [← Int.natCast_mul, Nat.mul_assoc]
  have hqd' : (q : Int) * (d : Int) = ((q * d : Nat) : Int) := by rw [← Int.natCast_mul]
  generalize q * d = qd at *
  generalize r * T = rT at *
  obtain ⟨Y, hY⟩ : ∃ Y : Nat, Y = d * 4294967296 := ⟨_, rfl⟩
  obtain ⟨U, hU⟩ : ∃ U : Nat, U = 4294967296 * T := ⟨_, rfl⟩
  obtain ⟨Z, hZ⟩ : ∃ Z : Nat, Z = 4294967296 * rT := ⟨_, rfl⟩
  obtain ⟨V, hV⟩ : ∃ V : Nat, V = qd * 4294967296 := ⟨_, rfl⟩
  obtain ⟨G, hG⟩ : ∃ G : Nat, G = q * 4294967296 := ⟨_, rfl⟩
  obtain ⟨A, hA⟩ : ∃ A : Int, IntKind.u64.wrap ((U : Int) * 4294967296) = A := ⟨_, rfl⟩
  obtain ⟨B, hB⟩ : ∃ B : Int, IntKind.u64.wrap ((q : Int) * (Y : Int)) = B := ⟨_, rfl⟩
  obtain ⟨M2, hM2⟩ : ∃ A : Int, IntKind.u64.wrap ((p : Int) * (d : Int)) = A := ⟨_, rfl⟩
  obtain ⟨R2, hR2⟩ : ∃ A : Int, IntKind.u64.wrap ((Z : Int) - M2) = A := ⟨_, rfl⟩
  obtain ⟨Z2, hZ2⟩ : ∃ A : Int, IntKind.u64.wrap (4294967296 * R2) = A := ⟨_, rfl⟩
  obtain ⟨N, hN⟩ : ∃ N : Nat, N = 18446744073709551616 / c := ⟨_, rfl⟩
  rw [← hU] at hs hqd hqU
  rw [← hY] at hqY
  rw [← hV] at hqY
  rw [← hZ] at hpZ
  rw [← hG, ← hN] at hn
  have hcU : (c : Int) * (U : Int) = (Y : Int) := by rw [hU, hcT, hY, hdd]
  clear hcT
  have hUd : (U : Int) / (d : Int) = (q : Int) := by rw [← Int.natCast_ediv, hqU]
  have hZd : (Z : Int) / (d : Int) = (p : Int) := by rw [← Int.natCast_ediv, hpZ]
  have hNc : N ≤ 18446744073709551615 := by omega
  refine ⟨Y, d, U, q, qd, rT, Z, A, B, p, M2, R2, Z2, G, N, ?_⟩
  exact {
    y := by rw [hs, hcU]; exact u64_in (by omega) (by omega)
    d := by omega
    lo := by rw [hY]; exact and_low d (by omega)
    u := by rw [hs]; exact u64_in (by omega) (by omega)
    or := or_zero _ (by omega)
    d0 := by omega
    q := by rw [Int.tdiv_eq_ediv_of_nonneg (by omega), hUd]; exact u64_in (by omega) (by omega)
    m := by rw [hqd']; exact u64_in (by omega) (by omega)
    r := by rw [show (U : Int) - (qd : Int) = rT by omega]; exact u64_in (by omega) (by omega)
    q1 := by omega
    z := by rw [show 4294967296 * (rT : Int) = (Z : Int) by omega]; exact u64_in (by omega) (by omega)
    z0 := by omega
    zz := u64_in (by omega) (by omega)
    a := hA
    aa := by rw [← hA]; exact wrap_wrap _
    b := hB
    ab := by
      rw [← hA, ← hB, hqY]
      simp only [IntKind.wrap_u64]
      omega
    p := by rw [Int.tdiv_eq_ediv_of_nonneg (by omega), hZd]; exact u64_in (by omega) (by omega)
    m2 := hM2
    r2 := hR2
    p1 := by omega
    z2 := hZ2
    z20 := by rw [← hZ2]; exact wrap_nn _
    zz2 := by rw [← hZ2]; exact wrap_wrap _
    g := by rw [show (q : Int) * 4294967296 = (G : Int) by omega]; exact u64_in (by omega) (by omega)
    n := by rw [show (G : Int) + (p : Int) = (N : Int) by omega]; exact u64_in (by omega) (by omega)
    n' := by rw [hN] }

set_option maxRecDepth 100000 in
set_option maxHeartbeats 4000000 in
theorem div64_any (c : Nat) (w : World) (h0 : 2 ≤ c) (h1 : c < 4294967296) :
    Calls Try.prog 79 #[.int .u64 1, .int .u64 0, .int .u64 c] w fun e w' => (∃ r : Int, e = .returned (.tuple #[.int .u64 (18446744073709551616 / c : Nat), .int .u64 r])) ∧ w = w' := by
  have H0 := Lib.hid h0
  have H1 := Lib.hid h1
  have a0 : ¬ (c : Int) = 0 := by omega
  have a1 : ¬ (c : Int) ≤ 1 := by omega
  clear h0 h1
  go_enter Try.func79, Try.ntmps79
  go_wp2_with (fail)
  refine (lead_any c _ (by have := H0.out; omega) H1.out).mono ?_
  rintro e w' ⟨⟨L, hL, rfl⟩, rfl⟩
  obtain ⟨k, hk⟩ : ∃ k : Nat, L = 32 - k ∧ k ≤ 30 := ⟨32 - L, by have := hL.2.1; omega, by
    have h := hL.2.2.2
    have : 2 ≤ L := by
      rcases Nat.lt_or_ge L 2 with h2 | h2
      · have h3 : L = 1 := by have := hL.1; omega
        rw [h3] at h; have := H0.out; omega
      · exact h2
    omega⟩
  obtain ⟨rfl, hk⟩ := hk
  have hs : (64 : Int) - ((32 - k : Nat) : Int) = ((32 + k : Nat) : Int) := by omega
  have hs1 : (32 + k : Nat) ≤ 62 := by omega
  obtain ⟨Y, D, U, Q, M, R, Z, A, B, P, M2, R2, Z2, G, N, hF⟩ := divs_of H0.out hL hk
  have HN := Lib.hid hF.n'
  rw [hs]
  clear hs hL hk H0 H1
  generalize 32 + k = s at *
  clear k
  have hs2 : (s : Int) ≤ 62 := by omega
  obtain ⟨y, d, lo, u, or, d0, q, m, r, q1, z, z0, zz, a, aa, b, ab, p, m2, r2, p1, z2, z20, zz2, g, n, n'⟩ := hF
  clear n'
  have lo0 : bits .and .u64 0 4294967295 = 0 := by decide
  go_wp2_with (fail)
  go_loop [15, 16] (fun qq rr => qq = .int .u64 Q ∧ rr = .int .u64 R) (fun _ _ => 0)
  case atStart => exact ⟨rfl, rfl⟩
  case round =>
    obtain ⟨rfl, rfl⟩ := hrel
    go_wp2_with (fail)
    go_loop [18, 16] (fun qq rr => qq = .int .u64 P ∧ rr = .int .u64 R2) (fun _ _ => 0)
    case atStart => exact ⟨rfl, rfl⟩
    case round =>
      obtain ⟨rfl, rfl⟩ := hrel
      go_wp2_with (fail)
      go_ret2
      exact ⟨⟨_, congrArg (fun x => Ending.returned (.tuple #[.int .u64 x, .int .u64 _])) HN.out⟩, rfl⟩
end Go.Proofs.Ytaibopaagjodoaa
