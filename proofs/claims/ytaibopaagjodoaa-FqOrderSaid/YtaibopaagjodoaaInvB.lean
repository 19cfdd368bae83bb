/-
  CONTRACTS of math/bits.Len64, LeadingZeros64, Div64, Mul64, each as far as roots need it.
-/
import Derived.Test.YtaibopaagjodoaaNum
import Derived.Test.YtaibopaagjodoaaInvM
namespace Go.Proofs.Ytaibopaagjodoaa
open Go.ChangeShapes Go.WideShapes Go.ChangeAt Go.RowKit
set_option linter.unusedVariables false
set_option linter.unusedSimpArgs false

set_option maxRecDepth 100000 in
theorem tab_len : ∀ n : Nat, (h : n < 256) → 0 < n → (1 ≤ ((⟨#[0, 1, 2, 2, 3, 3, 3, 3, 4, 4, 4, 4, 4, 4, 4, 4, 5, 5, 5, 5, 5, 5, 5, 5, 5, 5, 5, 5, 5, 5, 5, 5, 6, 6, 6, 6, 6, 6, 6, 6, 6, 6, 6, 6, 6, 6, 6, 6, 6, 6, 6, 6, 6, 6, 6, 6, 6, 6, 6, 6, 6, 6, 6, 6, 7, 7, 7, 7, 7, 7, 7, 7, 7, 7, 7, 7, 7, 7, 7, 7, 7, 7, 7, 7, 7, 7, 7, 7, 7, 7, 7, 7, 7, 7, 7, 7, 7, 7, 7, 7, 7, 7, 7, 7, 7, 7, 7, 7, 7, 7, 7, 7, 7, 7, 7, 7, 7, 7, 7, 7, 7, 7, 7, 7, 7, 7, 7, 7, 8, 8, 8, 8, 8, 8, 8, 8, 8, 8, 8, 8, 8, 8, 8, 8, 8, 8, 8, 8, 8, 8, 8, 8, 8, 8, 8, 8, 8, 8, 8, 8, 8, 8, 8, 8, 8, 8, 8, 8, 8, 8, 8, 8, 8, 8, 8, 8, 8, 8, 8, 8, 8, 8, 8, 8, 8, 8, 8, 8, 8, 8, 8, 8, 8, 8, 8, 8, 8, 8, 8, 8, 8, 8, 8, 8, 8, 8, 8, 8, 8, 8, 8, 8, 8, 8, 8, 8, 8, 8, 8, 8, 8, 8, 8, 8, 8, 8, 8, 8, 8, 8, 8, 8, 8, 8, 8, 8, 8, 8, 8, 8, 8, 8, 8, 8, 8, 8, 8, 8, 8, 8, 8, 8, 8, 8, 8, 8]⟩ : ByteArray)[n]'h).toNat ∧ ((⟨#[0, 1, 2, 2, 3, 3, 3, 3, 4, 4, 4, 4, 4, 4, 4, 4, 5, 5, 5, 5, 5, 5, 5, 5, 5, 5, 5, 5, 5, 5, 5, 5, 6, 6, 6, 6, 6, 6, 6, 6, 6, 6, 6, 6, 6, 6, 6, 6, 6, 6, 6, 6, 6, 6, 6, 6, 6, 6, 6, 6, 6, 6, 6, 6, 7, 7, 7, 7, 7, 7, 7, 7, 7, 7, 7, 7, 7, 7, 7, 7, 7, 7, 7, 7, 7, 7, 7, 7, 7, 7, 7, 7, 7, 7, 7, 7, 7, 7, 7, 7, 7, 7, 7, 7, 7, 7, 7, 7, 7, 7, 7, 7, 7, 7, 7, 7, 7, 7, 7, 7, 7, 7, 7, 7, 7, 7, 7, 7, 8, 8, 8, 8, 8, 8, 8, 8, 8, 8, 8, 8, 8, 8, 8, 8, 8, 8, 8, 8, 8, 8, 8, 8, 8, 8, 8, 8, 8, 8, 8, 8, 8, 8, 8, 8, 8, 8, 8, 8, 8, 8, 8, 8, 8, 8, 8, 8, 8, 8, 8, 8, 8, 8, 8, 8, 8, 8, 8, 8, 8, 8, 8, 8, 8, 8, 8, 8, 8, 8, 8, 8, 8, 8, 8, 8, 8, 8, 8, 8, 8, 8, 8, 8, 8, 8, 8, 8, 8, 8, 8, 8, 8, 8, 8, 8, 8, 8, 8, 8, 8, 8, 8, 8, 8, 8, 8, 8, 8, 8, 8, 8, 8, 8, 8, 8, 8, 8, 8, 8, 8, 8, 8, 8, 8, 8, 8, 8]⟩ : ByteArray)[n]'h).toNat ≤ 8 ∧ 2 ^ (((⟨#[0, 1, 2, 2, 3, 3, 3, 3, 4, 4, 4, 4, 4, 4, 4, 4, 5, 5, 5, 5, 5, 5, 5, 5, 5, 5, 5, 5, 5, 5, 5, 5, 6, 6, 6, 6, 6, 6, 6, 6, 6, 6, 6, 6, 6, 6, 6, 6, 6, 6, 6, 6, 6, 6, 6, 6, 6, 6, 6, 6, 6, 6, 6, 6, 7, 7, 7, 7, 7, 7, 7, 7, 7, 7, 7, 7, 7, 7, 7, 7, 7, 7, 7, 7, 7, 7, 7, 7, 7, 7, 7, 7, 7, 7, 7, 7, 7, 7, 7, 7, 7, 7, 7, 7, 7, 7, 7, 7, 7, 7, 7, 7, 7, 7, 7, 7, 7, 7, 7, 7, 7, 7, 7, 7, 7, 7, 7, 7, 8, 8, 8, 8, 8, 8, 8, 8, 8, 8, 8, 8, 8, 8, 8, 8, 8, 8, 8, 8, 8, 8, 8, 8, 8, 8, 8, 8, 8, 8, 8, 8, 8, 8, 8, 8, 8, 8, 8, 8, 8, 8, 8, 8, 8, 8, 8, 8, 8, 8, 8, 8, 8, 8, 8, 8, 8, 8, 8, 8, 8, 8, 8, 8, 8, 8, 8, 8, 8, 8, 8, 8, 8, 8, 8, 8, 8, 8, 8, 8, 8, 8, 8, 8, 8, 8, 8, 8, 8, 8, 8, 8, 8, 8, 8, 8, 8, 8, 8, 8, 8, 8, 8, 8, 8, 8, 8, 8, 8, 8, 8, 8, 8, 8, 8, 8, 8, 8, 8, 8, 8, 8, 8, 8, 8, 8, 8, 8]⟩ : ByteArray)[n]'h).toNat - 1) ≤ n ∧ n < 2 ^ ((⟨#[0, 1, 2, 2, 3, 3, 3, 3, 4, 4, 4, 4, 4, 4, 4, 4, 5, 5, 5, 5, 5, 5, 5, 5, 5, 5, 5, 5, 5, 5, 5, 5, 6, 6, 6, 6, 6, 6, 6, 6, 6, 6, 6, 6, 6, 6, 6, 6, 6, 6, 6, 6, 6, 6, 6, 6, 6, 6, 6, 6, 6, 6, 6, 6, 7, 7, 7, 7, 7, 7, 7, 7, 7, 7, 7, 7, 7, 7, 7, 7, 7, 7, 7, 7, 7, 7, 7, 7, 7, 7, 7, 7, 7, 7, 7, 7, 7, 7, 7, 7, 7, 7, 7, 7, 7, 7, 7, 7, 7, 7, 7, 7, 7, 7, 7, 7, 7, 7, 7, 7, 7, 7, 7, 7, 7, 7, 7, 7, 8, 8, 8, 8, 8, 8, 8, 8, 8, 8, 8, 8, 8, 8, 8, 8, 8, 8, 8, 8, 8, 8, 8, 8, 8, 8, 8, 8, 8, 8, 8, 8, 8, 8, 8, 8, 8, 8, 8, 8, 8, 8, 8, 8, 8, 8, 8, 8, 8, 8, 8, 8, 8, 8, 8, 8, 8, 8, 8, 8, 8, 8, 8, 8, 8, 8, 8, 8, 8, 8, 8, 8, 8, 8, 8, 8, 8, 8, 8, 8, 8, 8, 8, 8, 8, 8, 8, 8, 8, 8, 8, 8, 8, 8, 8, 8, 8, 8, 8, 8, 8, 8, 8, 8, 8, 8, 8, 8, 8, 8, 8, 8, 8, 8, 8, 8, 8, 8, 8, 8, 8, 8, 8, 8, 8, 8, 8, 8]⟩ : ByteArray)[n]'h).toNat) := by decide +kernel

/-- so many bits. -/
def IsLen (c L : Nat) : Prop := 1 ≤ L ∧ L ≤ 32 ∧ 2 ^ (L - 1) ≤ c ∧ c < 2 ^ L
theorem len_up {c m T : Nat} (j : Nat) (hj : j ≤ 24) (hm : m = c / 2 ^ j) (h : 1 ≤ T ∧ T ≤ 8 ∧ 2 ^ (T - 1) ≤ m ∧ m < 2 ^ T) : IsLen c (T + j) := by
  subst hm
  obtain ⟨h1, h2, h3, h4⟩ := h
  refine ⟨by omega, by omega, ?_, ?_⟩
  · rw [show T + j - 1 = T - 1 + j by omega, Nat.pow_add]
    exact (Nat.le_div_iff_mul_le (Nat.two_pow_pos j)).1 h3
  · rw [Nat.pow_add]
    exact (Nat.div_lt_iff_lt_mul (Nat.two_pow_pos j)).1 h4

set_option maxRecDepth 100000 in
set_option maxHeartbeats 4000000 in
theorem len64_a (c : Nat) (w : World) (h0 : 1 ≤ c) (h1 : c < 256) :
    Calls Try.prog 82 #[.int .u64 c] w fun e w' => (∃ L : Nat, IsLen c L ∧ e = .returned (.int .i64 L)) ∧ w = w' := by
  have a1 : ¬ (4294967296 : Int) ≤ (c : Int) := by omega
  have a2 : ¬ (65536 : Int) ≤ (c : Int) := by omega
  have a3 : ¬ (256 : Int) ≤ (c : Int) := by omega
  have HT := Lib.hid (tab_len c h1 h0)
  go_enter Try.func82, Try.ntmps82
  go_wp2
  go_ret
  have h := HT.out
  refine ⟨⟨_, len_up 0 (by omega) (by simp) h, ret_int ?_⟩, rfl⟩
  unfold wrap64
  omega

set_option maxRecDepth 100000 in
set_option maxHeartbeats 4000000 in
theorem len64_b (c : Nat) (w : World) (h0 : 256 ≤ c) (h1 : c < 65536) :
    Calls Try.prog 82 #[.int .u64 c] w fun e w' => (∃ L : Nat, IsLen c L ∧ e = .returned (.int .i64 L)) ∧ w = w' := by
  have a1 : ¬ (4294967296 : Int) ≤ (c : Int) := by omega
  have a2 : ¬ (65536 : Int) ≤ (c : Int) := by omega
  have a3 : (256 : Int) ≤ (c : Int) := by omega
  obtain ⟨m, hm⟩ := Int.eq_ofNat_of_zero_le (show 0 ≤ (c : Int) / 256 by omega)
  have a4 : m < 256 := by omega
  have a5 : (m : Int) < 256 := by omega
  have HT := Lib.hid (tab_len m a4 (by omega))
  have HM := Lib.hid (show m = c / 2 ^ 8 by omega)
  go_enter Try.func82, Try.ntmps82
  go_wp2
  go_ret
  have h := HT.out
  refine ⟨⟨_, len_up 8 (by omega) HM.out h, ret_int ?_⟩, rfl⟩
  unfold wrap64
  omega

set_option maxRecDepth 100000 in
set_option maxHeartbeats 4000000 in
theorem len64_c (c : Nat) (w : World) (h0 : 65536 ≤ c) (h1 : c < 16777216) :
    Calls Try.prog 82 #[.int .u64 c] w fun e w' => (∃ L : Nat, IsLen c L ∧ e = .returned (.int .i64 L)) ∧ w = w' := by
  have a1 : ¬ (4294967296 : Int) ≤ (c : Int) := by omega
  have a2 : (65536 : Int) ≤ (c : Int) := by omega
  obtain ⟨m, hm⟩ := Int.eq_ofNat_of_zero_le (show 0 ≤ (c : Int) / 65536 by omega)
  have a3 : ¬ (256 : Int) ≤ (m : Int) := by omega
  have a4 : m < 256 := by omega
  have a5 : (m : Int) < 256 := by omega
  have HT := Lib.hid (tab_len m a4 (by omega))
  have HM := Lib.hid (show m = c / 2 ^ 16 by omega)
  go_enter Try.func82, Try.ntmps82
  go_wp2
  go_ret
  have h := HT.out
  refine ⟨⟨_, len_up 16 (by omega) HM.out h, ret_int ?_⟩, rfl⟩
  unfold wrap64
  omega

set_option maxRecDepth 100000 in
set_option maxHeartbeats 4000000 in
theorem len64_d (c : Nat) (w : World) (h0 : 16777216 ≤ c) (h1 : c < 4294967296) :
    Calls Try.prog 82 #[.int .u64 c] w fun e w' => (∃ L : Nat, IsLen c L ∧ e = .returned (.int .i64 L)) ∧ w = w' := by
  have a1 : ¬ (4294967296 : Int) ≤ (c : Int) := by omega
  have a2 : (65536 : Int) ≤ (c : Int) := by omega
  obtain ⟨p, hp⟩ := Int.eq_ofNat_of_zero_le (show 0 ≤ (c : Int) / 65536 by omega)
  have a3 : (256 : Int) ≤ (p : Int) := by omega
  obtain ⟨m, hm⟩ := Int.eq_ofNat_of_zero_le (show 0 ≤ (p : Int) / 256 by omega)
  have a4 : m < 256 := by omega
  have a5 : (m : Int) < 256 := by omega
  have HT := Lib.hid (tab_len m a4 (by omega))
  have HM := Lib.hid (show m = c / 2 ^ 24 by omega)
  go_enter Try.func82, Try.ntmps82
  go_wp2
  go_ret
  have h := HT.out
  refine ⟨⟨_, len_up 24 (by omega) HM.out h, ret_int ?_⟩, rfl⟩
  unfold wrap64
  omega

theorem len64_any (c : Nat) (w : World) (h0 : 1 ≤ c) (h1 : c < 4294967296) :
    Calls Try.prog 82 #[.int .u64 c] w fun e w' => (∃ L : Nat, IsLen c L ∧ e = .returned (.int .i64 L)) ∧ w = w' := by
  by_cases a : c < 256
  · exact len64_a c w h0 a
  by_cases b : c < 65536
  · exact len64_b c w (by omega) b
  by_cases d : c < 16777216
  · exact len64_c c w (by omega) d
  · exact len64_d c w (by omega) h1
end Go.Proofs.Ytaibopaagjodoaa
