/-
  muezzin/muezzinlaw10.InvFalls returns true, for all arguments; no condition.
-/
import Derived.Test.YtebeclebpabkaaaInvF
import Derived.Laws.BitsAllLaws
import Derived.WalkKit
import Derived.ProofKit
import Derived.OpenShut
import Derived.ShutString
namespace Go.Proofs.Ytebeclebpabkaaa.invFalls
open Go.ChangeShapes Go.WideShapes Go.ChangeAt Go.RowKit
open Go.ChangeMaps (open_string shut_string)
set_option linter.unusedVariables false
set_option linter.unusedSimpArgs false

theorem own : ownKnob Try.prog.godebug = none := by kernel_rfl


/-- a fact that the walk does not look at. -/
structure Shut (p : Prop) : Prop where
  out : p
theorem and30 (a : Nat) (h : a < 4294967296) : bits .and .u32 (a : Int) 1073741823 = ((a % 1073741824 : Nat) : Int) := by
  have e := u32_and_nat a 1073741823 h (by omega)
  have e2 : a &&& 1073741823 = a % 1073741824 := by
    rw [show (1073741823 : Nat) = 2 ^ 30 - 1 from rfl, Nat.and_two_pow_sub_one_eq_mod]
  rw [e2] at e
  exact e
theorem next_falls {t i : Int} {a b : Nat} (h : a ≤ b) : nextN t i b ≤ nextN t i a := next_mono (invN_anti h)
theorem next_low (t i : Int) (c : Nat) : clampR t 0 1125899906842624 ≤ nextN t i c := (next_in (invN_le c)).1
theorem next_high (t i : Int) (c : Nat) : nextN t i c ≤ clampR t 0 1125899906842624 + 1073741824 := (next_in (invN_le c)).2
theorem inv_low (c : Nat) (h : c < 4294967296) : 65536 ≤ invN c := inv_ge (by omega) (invN_is c)
theorem inv_quarter {m : Nat} (h : 0 < m) : invN (m * 4) = invN m / 2 := by
  have h1 := invN_is m
  have h2 := invN_is (m * 4)
  rw [show max m 1 = m by omega] at h1
  rw [show max (m * 4) 1 = m * 4 by omega] at h2
  exact inv_four h h1 h2
theorem inv_half {m q z Z : Nat} (h : 0 < m) (hq : invN m = q) (hz : (q : Int) / 2 = (z : Int)) (hZ : m * 4 = Z) : invN Z = z := by
  rw [← hZ, inv_quarter h, hq]; omega

set_option maxRecDepth 100000 in
set_option maxHeartbeats 4000000 in
theorem walk_0 (t i : Int) (a b : Nat) (w : World) (ha : a < 4294967296) (hb : b < 4294967296) (ht0 : t < 0) :
    Calls Try.prog 5 #[.int .u32 a, .int .u32 b, .int .i64 t, .int .i64 i] w fun e w' => e = .returned (.bool true) ∧ Grown w w' := by
  have ht : clampR t 0 1125899906842624 = 0 := by unfold clampR; omega
  have h1 : t < 0 := by omega
  clear ht0
  rcases (by omega : (a = 0 ∧ b = 0) ∨ (a = 0 ∧ 0 < b) ∨ (b = 0 ∧ 0 < a) ∨ (0 < a ∧ a ≤ b) ∨ (0 < b ∧ b < a)) with h | h | h | h | h
  · obtain ⟨rfl, rfl⟩ := h
    have HAB : (1 : Nat) ≤ 1 := by omega
    obtain ⟨x, hx⟩ : ∃ x, invN 1 = x := ⟨_, rfl⟩
    obtain ⟨y, hy⟩ : ∃ y, invN 1 = y := ⟨_, rfl⟩
    have hx1 : (x : Int) ≤ 4294967296 := by have := invN_le 1; omega
    have hy1 : (65536 : Int) ≤ (y : Int) := by have := inv_low 1 (by decide); omega
    have hy2 : (y : Int) ≤ 4294967296 := by have := invN_le 1; omega
    have hyx : (y : Int) ≤ (x : Int) := by have := invN_anti HAB; omega
    have HX := Shut.mk hx
    have HY := Shut.mk hy
    have hm : bits .and .u32 1 1073741823 = 1 := by decide
    obtain ⟨m, hme⟩ : ∃ m : Nat, m = 1 := ⟨_, rfl⟩
    obtain ⟨q, hq⟩ : ∃ q, invN (1 : Nat) = q := ⟨_, rfl⟩
    have hq1 : (q : Int) ≤ 4294967296 := by have := invN_le (1 : Nat); omega
    have HQ := Shut.mk hq
    obtain ⟨z, hzz⟩ := Int.eq_ofNat_of_zero_le (show 0 ≤ (q : Int) / 2 by omega)
    have HZ := Shut.mk (inv_half (m := 1) (Z := 4) (by omega) hq hzz rfl)
    have hz1 : (z : Int) ≤ 4294967296 := by omega
    obtain ⟨T, hT⟩ : ∃ T, nextN t i 1 = T := ⟨_, rfl⟩
    obtain ⟨U, hU⟩ : ∃ U, nextN t i 1 = U := ⟨_, rfl⟩
    have k1 : U ≤ T := by rw [← hT, ← hU]; exact next_falls HAB
    have k2 : 0 ≤ U := by have h := next_low t i 1; rw [ht] at h; rw [← hU]; exact h
    have k3 : T ≤ 0 + 1073741824 := by have h := next_high t i 1; rw [ht] at h; rw [← hT]; exact h
    have HT := Shut.mk hT
    have HU := Shut.mk hU
    have k4 : T ≤ 1073741824 := by omega
    have k5 : 0 ≤ T := by omega
    have k6 : T ≤ 1125899906842624 + 1073741824 := by omega
    have k7 : 0 ≤ U := by omega
    have k8 : U ≤ 1125899906842624 + 1073741824 := by omega
    clear hx hy hme hq hT hU k3
    try clear ht
    clear ha hb HAB
    go_enter Try.func5, Try.ntmps5
    go_wp2_with (fail)
    refine (first_any _).mono ?_
    rintro e wn ⟨rfl, rfl⟩
    go_wp2_with (fail)
    refine (inv_any 1 _ (by decide)).mono ?_
    rintro e wn ⟨rfl, rfl⟩
    rw [HX.out]
    go_wp2_with (fail)
    refine (inv_any 1 _ (by decide)).mono ?_
    rintro e wn ⟨rfl, rfl⟩
    rw [HY.out]
    go_wp2_with (fail)
    refine (inv_any 1 _ (by first | decide | (have := HM.out; omega))).mono ?_
    rintro e wn ⟨rfl, rfl⟩
    rw [HQ.out]
    go_wp2_with (fail)
    refine (inv_any 4 _ (by first | decide | (have := HM.out; omega))).mono ?_
    rintro e wn ⟨rfl, rfl⟩
    rw [HZ.out]
    go_wp2_with (fail)
    refine (next_any t i 1 _ (by decide)).mono ?_
    rintro e wn ⟨rfl, rfl⟩
    rw [HT.out]
    go_wp2_with (fail)
    refine (next_any t i 1 _ (by decide)).mono ?_
    rintro e wn ⟨rfl, rfl⟩
    rw [HU.out]
    go_wp2
    go_ret
    exact ⟨rfl, Grown.refl _⟩
  · obtain ⟨rfl, h0⟩ := h
    have hb0 : (1 : Int) ≤ (b : Int) := by omega
    have hb1 : ¬ (b : Int) < 0 := by omega
    have hb2 : ¬ (b : Int) < 1 := by omega
    have HAB : (1 : Nat) ≤ b := by omega
    have HB := Shut.mk (show (b : Nat) < 4294967296 by omega)
    obtain ⟨x, hx⟩ : ∃ x, invN 1 = x := ⟨_, rfl⟩
    obtain ⟨y, hy⟩ : ∃ y, invN b = y := ⟨_, rfl⟩
    have hx1 : (x : Int) ≤ 4294967296 := by have := invN_le 1; omega
    have hy1 : (65536 : Int) ≤ (y : Int) := by have := inv_low b HB.out; omega
    have hy2 : (y : Int) ≤ 4294967296 := by have := invN_le b; omega
    have hyx : (y : Int) ≤ (x : Int) := by have := invN_anti HAB; omega
    have HX := Shut.mk hx
    have HY := Shut.mk hy
    have hm : bits .and .u32 1 1073741823 = 1 := by decide
    obtain ⟨m, hme⟩ : ∃ m : Nat, m = 1 := ⟨_, rfl⟩
    obtain ⟨q, hq⟩ : ∃ q, invN (1 : Nat) = q := ⟨_, rfl⟩
    have hq1 : (q : Int) ≤ 4294967296 := by have := invN_le (1 : Nat); omega
    have HQ := Shut.mk hq
    obtain ⟨z, hzz⟩ := Int.eq_ofNat_of_zero_le (show 0 ≤ (q : Int) / 2 by omega)
    have HZ := Shut.mk (inv_half (m := 1) (Z := 4) (by omega) hq hzz rfl)
    have hz1 : (z : Int) ≤ 4294967296 := by omega
    obtain ⟨T, hT⟩ : ∃ T, nextN t i 1 = T := ⟨_, rfl⟩
    obtain ⟨U, hU⟩ : ∃ U, nextN t i b = U := ⟨_, rfl⟩
    have k1 : U ≤ T := by rw [← hT, ← hU]; exact next_falls HAB
    have k2 : 0 ≤ U := by have h := next_low t i b; rw [ht] at h; rw [← hU]; exact h
    have k3 : T ≤ 0 + 1073741824 := by have h := next_high t i 1; rw [ht] at h; rw [← hT]; exact h
    have HT := Shut.mk hT
    have HU := Shut.mk hU
    have k4 : T ≤ 1073741824 := by omega
    have k5 : 0 ≤ T := by omega
    have k6 : T ≤ 1125899906842624 + 1073741824 := by omega
    have k7 : 0 ≤ U := by omega
    have k8 : U ≤ 1125899906842624 + 1073741824 := by omega
    clear hx hy hme hq hT hU k3
    try clear ht
    clear ha hb HAB
    go_enter Try.func5, Try.ntmps5
    go_wp2_with (fail)
    refine (first_any _).mono ?_
    rintro e wn ⟨rfl, rfl⟩
    go_wp2_with (fail)
    refine (inv_any 1 _ (by decide)).mono ?_
    rintro e wn ⟨rfl, rfl⟩
    rw [HX.out]
    go_wp2_with (fail)
    refine (inv_any b _ HB.out).mono ?_
    rintro e wn ⟨rfl, rfl⟩
    rw [HY.out]
    go_wp2_with (fail)
    refine (inv_any 1 _ (by first | decide | (have := HM.out; omega))).mono ?_
    rintro e wn ⟨rfl, rfl⟩
    rw [HQ.out]
    go_wp2_with (fail)
    refine (inv_any 4 _ (by first | decide | (have := HM.out; omega))).mono ?_
    rintro e wn ⟨rfl, rfl⟩
    rw [HZ.out]
    go_wp2_with (fail)
    refine (next_any t i 1 _ (by decide)).mono ?_
    rintro e wn ⟨rfl, rfl⟩
    rw [HT.out]
    go_wp2_with (fail)
    refine (next_any t i b _ HB.out).mono ?_
    rintro e wn ⟨rfl, rfl⟩
    rw [HU.out]
    go_wp2
    go_ret
    exact ⟨rfl, Grown.refl _⟩
  · obtain ⟨rfl, h0⟩ := h
    have hb0 : (1 : Int) ≤ (a : Int) := by omega
    have hb1 : (0 : Int) < (a : Int) := by omega
    have hb2 : ¬ (a : Int) < 1 := by omega
    have HAB : (1 : Nat) ≤ a := by omega
    have HB := Shut.mk (show (a : Nat) < 4294967296 by omega)
    obtain ⟨x, hx⟩ : ∃ x, invN 1 = x := ⟨_, rfl⟩
    obtain ⟨y, hy⟩ : ∃ y, invN a = y := ⟨_, rfl⟩
    have hx1 : (x : Int) ≤ 4294967296 := by have := invN_le 1; omega
    have hy1 : (65536 : Int) ≤ (y : Int) := by have := inv_low a HB.out; omega
    have hy2 : (y : Int) ≤ 4294967296 := by have := invN_le a; omega
    have hyx : (y : Int) ≤ (x : Int) := by have := invN_anti HAB; omega
    have HX := Shut.mk hx
    have HY := Shut.mk hy
    have hm : bits .and .u32 1 1073741823 = 1 := by decide
    obtain ⟨m, hme⟩ : ∃ m : Nat, m = 1 := ⟨_, rfl⟩
    obtain ⟨q, hq⟩ : ∃ q, invN (1 : Nat) = q := ⟨_, rfl⟩
    have hq1 : (q : Int) ≤ 4294967296 := by have := invN_le (1 : Nat); omega
    have HQ := Shut.mk hq
    obtain ⟨z, hzz⟩ := Int.eq_ofNat_of_zero_le (show 0 ≤ (q : Int) / 2 by omega)
    have HZ := Shut.mk (inv_half (m := 1) (Z := 4) (by omega) hq hzz rfl)
    have hz1 : (z : Int) ≤ 4294967296 := by omega
    obtain ⟨T, hT⟩ : ∃ T, nextN t i 1 = T := ⟨_, rfl⟩
    obtain ⟨U, hU⟩ : ∃ U, nextN t i a = U := ⟨_, rfl⟩
    have k1 : U ≤ T := by rw [← hT, ← hU]; exact next_falls HAB
    have k2 : 0 ≤ U := by have h := next_low t i a; rw [ht] at h; rw [← hU]; exact h
    have k3 : T ≤ 0 + 1073741824 := by have h := next_high t i 1; rw [ht] at h; rw [← hT]; exact h
    have HT := Shut.mk hT
    have HU := Shut.mk hU
    have k4 : T ≤ 1073741824 := by omega
    have k5 : 0 ≤ T := by omega
    have k6 : T ≤ 1125899906842624 + 1073741824 := by omega
    have k7 : 0 ≤ U := by omega
    have k8 : U ≤ 1125899906842624 + 1073741824 := by omega
    clear hx hy hme hq hT hU k3
    try clear ht
    clear ha hb HAB
    go_enter Try.func5, Try.ntmps5
    go_wp2_with (fail)
    refine (first_any _).mono ?_
    rintro e wn ⟨rfl, rfl⟩
    go_wp2_with (fail)
    refine (inv_any 1 _ (by decide)).mono ?_
    rintro e wn ⟨rfl, rfl⟩
    rw [HX.out]
    go_wp2_with (fail)
    refine (inv_any a _ HB.out).mono ?_
    rintro e wn ⟨rfl, rfl⟩
    rw [HY.out]
    go_wp2_with (fail)
    refine (inv_any 1 _ (by first | decide | (have := HM.out; omega))).mono ?_
    rintro e wn ⟨rfl, rfl⟩
    rw [HQ.out]
    go_wp2_with (fail)
    refine (inv_any 4 _ (by first | decide | (have := HM.out; omega))).mono ?_
    rintro e wn ⟨rfl, rfl⟩
    rw [HZ.out]
    go_wp2_with (fail)
    refine (next_any t i 1 _ (by decide)).mono ?_
    rintro e wn ⟨rfl, rfl⟩
    rw [HT.out]
    go_wp2_with (fail)
    refine (next_any t i a _ HB.out).mono ?_
    rintro e wn ⟨rfl, rfl⟩
    rw [HU.out]
    go_wp2
    go_ret
    exact ⟨rfl, Grown.refl _⟩
  · obtain ⟨h0, h1'⟩ := h
    have hc : ¬ (b : Int) < (a : Int) := by omega
    have hb1 : ((a : Int) == 0) = false := by simp; omega
    have hb2 : ¬ (b : Int) < 1 := by omega
    rcases (by omega : a % 1073741824 = 0 ∨ 0 < a % 1073741824) with hm0 | hm0
    · have HAB : (a : Nat) ≤ b := by omega
      have HA := Shut.mk (show (a : Nat) < 4294967296 by omega)
      have HB := Shut.mk (show (b : Nat) < 4294967296 by omega)
      obtain ⟨x, hx⟩ : ∃ x, invN a = x := ⟨_, rfl⟩
      obtain ⟨y, hy⟩ : ∃ y, invN b = y := ⟨_, rfl⟩
      have hx1 : (x : Int) ≤ 4294967296 := by have := invN_le a; omega
      have hy1 : (65536 : Int) ≤ (y : Int) := by have := inv_low b HB.out; omega
      have hy2 : (y : Int) ≤ 4294967296 := by have := invN_le b; omega
      have hyx : (y : Int) ≤ (x : Int) := by have := invN_anti HAB; omega
      have HX := Shut.mk hx
      have HY := Shut.mk hy
      obtain ⟨m, hme⟩ : ∃ m, a % 1073741824 = m := ⟨_, rfl⟩
      have hm : bits .and .u32 (a : Int) 1073741823 = (m : Int) := by rw [and30 _ HA.out, hme]
      have hm2 : m < 1073741824 := by omega
      have hm3 : IntKind.u32.wrap ((m : Int) * 4) = ((m * 4 : Nat) : Int) := by rw [IntKind.wrap_u32]; omega
      have HM := Shut.mk hm2
      obtain ⟨q, hq⟩ : ∃ q, invN m = q := ⟨_, rfl⟩
      have hq1 : (q : Int) ≤ 4294967296 := by have := invN_le m; omega
      have HQ := Shut.mk hq
      have hz : ((m : Int) == 0) = true := by rw [show m = 0 by omega]; rfl
      obtain ⟨z, hzz⟩ : ∃ z, invN (m * 4) = z := ⟨_, rfl⟩
      have HZ := Shut.mk hzz
      have hz1 : (z : Int) ≤ 4294967296 := by have := invN_le (m * 4); omega
      obtain ⟨T, hT⟩ : ∃ T, nextN t i a = T := ⟨_, rfl⟩
      obtain ⟨U, hU⟩ : ∃ U, nextN t i b = U := ⟨_, rfl⟩
      have k1 : U ≤ T := by rw [← hT, ← hU]; exact next_falls HAB
      have k2 : 0 ≤ U := by have h := next_low t i b; rw [ht] at h; rw [← hU]; exact h
      have k3 : T ≤ 0 + 1073741824 := by have h := next_high t i a; rw [ht] at h; rw [← hT]; exact h
      have HT := Shut.mk hT
      have HU := Shut.mk hU
      have k4 : T ≤ 1073741824 := by omega
      have k5 : 0 ≤ T := by omega
      have k6 : T ≤ 1125899906842624 + 1073741824 := by omega
      have k7 : 0 ≤ U := by omega
      have k8 : U ≤ 1125899906842624 + 1073741824 := by omega
      clear hx hy hme hq hT hU k3 hzz hm2
      try clear ht
      clear ha hb HAB
      go_enter Try.func5, Try.ntmps5
      go_wp2_with (fail)
      refine (first_any _).mono ?_
      rintro e wn ⟨rfl, rfl⟩
      go_wp2_with (fail)
      refine (inv_any a _ HA.out).mono ?_
      rintro e wn ⟨rfl, rfl⟩
      rw [HX.out]
      go_wp2_with (fail)
      refine (inv_any b _ HB.out).mono ?_
      rintro e wn ⟨rfl, rfl⟩
      rw [HY.out]
      go_wp2_with (fail)
      refine (inv_any m _ (by first | decide | (have := HM.out; omega))).mono ?_
      rintro e wn ⟨rfl, rfl⟩
      rw [HQ.out]
      go_wp2_with (fail)
      refine (inv_any (m * 4) _ (by first | decide | (have := HM.out; omega))).mono ?_
      rintro e wn ⟨rfl, rfl⟩
      rw [HZ.out]
      go_wp2_with (fail)
      refine (next_any t i a _ HA.out).mono ?_
      rintro e wn ⟨rfl, rfl⟩
      rw [HT.out]
      go_wp2_with (fail)
      refine (next_any t i b _ HB.out).mono ?_
      rintro e wn ⟨rfl, rfl⟩
      rw [HU.out]
      go_wp2
      go_ret
      exact ⟨rfl, Grown.refl _⟩
    · have HAB : (a : Nat) ≤ b := by omega
      have HA := Shut.mk (show (a : Nat) < 4294967296 by omega)
      have HB := Shut.mk (show (b : Nat) < 4294967296 by omega)
      obtain ⟨x, hx⟩ : ∃ x, invN a = x := ⟨_, rfl⟩
      obtain ⟨y, hy⟩ : ∃ y, invN b = y := ⟨_, rfl⟩
      have hx1 : (x : Int) ≤ 4294967296 := by have := invN_le a; omega
      have hy1 : (65536 : Int) ≤ (y : Int) := by have := inv_low b HB.out; omega
      have hy2 : (y : Int) ≤ 4294967296 := by have := invN_le b; omega
      have hyx : (y : Int) ≤ (x : Int) := by have := invN_anti HAB; omega
      have HX := Shut.mk hx
      have HY := Shut.mk hy
      obtain ⟨m, hme⟩ : ∃ m, a % 1073741824 = m := ⟨_, rfl⟩
      have hm : bits .and .u32 (a : Int) 1073741823 = (m : Int) := by rw [and30 _ HA.out, hme]
      have hm2 : m < 1073741824 := by omega
      have hm3 : IntKind.u32.wrap ((m : Int) * 4) = ((m * 4 : Nat) : Int) := by rw [IntKind.wrap_u32]; omega
      have HM := Shut.mk hm2
      obtain ⟨q, hq⟩ : ∃ q, invN m = q := ⟨_, rfl⟩
      have hq1 : (q : Int) ≤ 4294967296 := by have := invN_le m; omega
      have HQ := Shut.mk hq
      have hz : ((m : Int) == 0) = false := by simp; omega
      obtain ⟨z, hzz⟩ := Int.eq_ofNat_of_zero_le (show 0 ≤ (q : Int) / 2 by omega)
      have HZ := Shut.mk (inv_half (m := m) (Z := (m * 4)) (by omega) hq hzz rfl)
      have hz1 : (z : Int) ≤ 4294967296 := by omega
      obtain ⟨T, hT⟩ : ∃ T, nextN t i a = T := ⟨_, rfl⟩
      obtain ⟨U, hU⟩ : ∃ U, nextN t i b = U := ⟨_, rfl⟩
      have k1 : U ≤ T := by rw [← hT, ← hU]; exact next_falls HAB
      have k2 : 0 ≤ U := by have h := next_low t i b; rw [ht] at h; rw [← hU]; exact h
      have k3 : T ≤ 0 + 1073741824 := by have h := next_high t i a; rw [ht] at h; rw [← hT]; exact h
      have HT := Shut.mk hT
      have HU := Shut.mk hU
      have k4 : T ≤ 1073741824 := by omega
      have k5 : 0 ≤ T := by omega
      have k6 : T ≤ 1125899906842624 + 1073741824 := by omega
      have k7 : 0 ≤ U := by omega
      have k8 : U ≤ 1125899906842624 + 1073741824 := by omega
      clear hx hy hme hq hT hU k3 hm2
      try clear ht
      clear ha hb HAB
      go_enter Try.func5, Try.ntmps5
      go_wp2_with (fail)
      refine (first_any _).mono ?_
      rintro e wn ⟨rfl, rfl⟩
      go_wp2_with (fail)
      refine (inv_any a _ HA.out).mono ?_
      rintro e wn ⟨rfl, rfl⟩
      rw [HX.out]
      go_wp2_with (fail)
      refine (inv_any b _ HB.out).mono ?_
      rintro e wn ⟨rfl, rfl⟩
      rw [HY.out]
      go_wp2_with (fail)
      refine (inv_any m _ (by first | decide | (have := HM.out; omega))).mono ?_
      rintro e wn ⟨rfl, rfl⟩
      rw [HQ.out]
      go_wp2_with (fail)
      refine (inv_any (m * 4) _ (by first | decide | (have := HM.out; omega))).mono ?_
      rintro e wn ⟨rfl, rfl⟩
      rw [HZ.out]
      go_wp2_with (fail)
      refine (next_any t i a _ HA.out).mono ?_
      rintro e wn ⟨rfl, rfl⟩
      rw [HT.out]
      go_wp2_with (fail)
      refine (next_any t i b _ HB.out).mono ?_
      rintro e wn ⟨rfl, rfl⟩
      rw [HU.out]
      go_wp2
      go_ret
      exact ⟨rfl, Grown.refl _⟩
  · obtain ⟨h0, h1'⟩ := h
    have hc : (b : Int) < (a : Int) := by omega
    have hb1 : ((b : Int) == 0) = false := by simp; omega
    have hb2 : ¬ (a : Int) < 1 := by omega
    rcases (by omega : b % 1073741824 = 0 ∨ 0 < b % 1073741824) with hm0 | hm0
    · have HAB : (b : Nat) ≤ a := by omega
      have HA := Shut.mk (show (b : Nat) < 4294967296 by omega)
      have HB := Shut.mk (show (a : Nat) < 4294967296 by omega)
      obtain ⟨x, hx⟩ : ∃ x, invN b = x := ⟨_, rfl⟩
      obtain ⟨y, hy⟩ : ∃ y, invN a = y := ⟨_, rfl⟩
      have hx1 : (x : Int) ≤ 4294967296 := by have := invN_le b; omega
      have hy1 : (65536 : Int) ≤ (y : Int) := by have := inv_low a HB.out; omega
      have hy2 : (y : Int) ≤ 4294967296 := by have := invN_le a; omega
      have hyx : (y : Int) ≤ (x : Int) := by have := invN_anti HAB; omega
      have HX := Shut.mk hx
      have HY := Shut.mk hy
      obtain ⟨m, hme⟩ : ∃ m, b % 1073741824 = m := ⟨_, rfl⟩
      have hm : bits .and .u32 (b : Int) 1073741823 = (m : Int) := by rw [and30 _ HA.out, hme]
      have hm2 : m < 1073741824 := by omega
      have hm3 : IntKind.u32.wrap ((m : Int) * 4) = ((m * 4 : Nat) : Int) := by rw [IntKind.wrap_u32]; omega
      have HM := Shut.mk hm2
      obtain ⟨q, hq⟩ : ∃ q, invN m = q := ⟨_, rfl⟩
      have hq1 : (q : Int) ≤ 4294967296 := by have := invN_le m; omega
      have HQ := Shut.mk hq
      have hz : ((m : Int) == 0) = true := by rw [show m = 0 by omega]; rfl
      obtain ⟨z, hzz⟩ : ∃ z, invN (m * 4) = z := ⟨_, rfl⟩
      have HZ := Shut.mk hzz
      have hz1 : (z : Int) ≤ 4294967296 := by have := invN_le (m * 4); omega
      obtain ⟨T, hT⟩ : ∃ T, nextN t i b = T := ⟨_, rfl⟩
      obtain ⟨U, hU⟩ : ∃ U, nextN t i a = U := ⟨_, rfl⟩
      have k1 : U ≤ T := by rw [← hT, ← hU]; exact next_falls HAB
      have k2 : 0 ≤ U := by have h := next_low t i a; rw [ht] at h; rw [← hU]; exact h
      have k3 : T ≤ 0 + 1073741824 := by have h := next_high t i b; rw [ht] at h; rw [← hT]; exact h
      have HT := Shut.mk hT
      have HU := Shut.mk hU
      have k4 : T ≤ 1073741824 := by omega
      have k5 : 0 ≤ T := by omega
      have k6 : T ≤ 1125899906842624 + 1073741824 := by omega
      have k7 : 0 ≤ U := by omega
      have k8 : U ≤ 1125899906842624 + 1073741824 := by omega
      clear hx hy hme hq hT hU k3 hzz hm2
      try clear ht
      clear ha hb HAB
      go_enter Try.func5, Try.ntmps5
      go_wp2_with (fail)
      refine (first_any _).mono ?_
      rintro e wn ⟨rfl, rfl⟩
      go_wp2_with (fail)
      refine (inv_any b _ HA.out).mono ?_
      rintro e wn ⟨rfl, rfl⟩
      rw [HX.out]
      go_wp2_with (fail)
      refine (inv_any a _ HB.out).mono ?_
      rintro e wn ⟨rfl, rfl⟩
      rw [HY.out]
      go_wp2_with (fail)
      refine (inv_any m _ (by first | decide | (have := HM.out; omega))).mono ?_
      rintro e wn ⟨rfl, rfl⟩
      rw [HQ.out]
      go_wp2_with (fail)
      refine (inv_any (m * 4) _ (by first | decide | (have := HM.out; omega))).mono ?_
      rintro e wn ⟨rfl, rfl⟩
      rw [HZ.out]
      go_wp2_with (fail)
      refine (next_any t i b _ HA.out).mono ?_
      rintro e wn ⟨rfl, rfl⟩
      rw [HT.out]
      go_wp2_with (fail)
      refine (next_any t i a _ HB.out).mono ?_
      rintro e wn ⟨rfl, rfl⟩
      rw [HU.out]
      go_wp2
      go_ret
      exact ⟨rfl, Grown.refl _⟩
    · have HAB : (b : Nat) ≤ a := by omega
      have HA := Shut.mk (show (b : Nat) < 4294967296 by omega)
      have HB := Shut.mk (show (a : Nat) < 4294967296 by omega)
      obtain ⟨x, hx⟩ : ∃ x, invN b = x := ⟨_, rfl⟩
      obtain ⟨y, hy⟩ : ∃ y, invN a = y := ⟨_, rfl⟩
      have hx1 : (x : Int) ≤ 4294967296 := by have := invN_le b; omega
      have hy1 : (65536 : Int) ≤ (y : Int) := by have := inv_low a HB.out; omega
      have hy2 : (y : Int) ≤ 4294967296 := by have := invN_le a; omega
      have hyx : (y : Int) ≤ (x : Int) := by have := invN_anti HAB; omega
      have HX := Shut.mk hx
      have HY := Shut.mk hy
      obtain ⟨m, hme⟩ : ∃ m, b % 1073741824 = m := ⟨_, rfl⟩
      have hm : bits .and .u32 (b : Int) 1073741823 = (m : Int) := by rw [and30 _ HA.out, hme]
      have hm2 : m < 1073741824 := by omega
      have hm3 : IntKind.u32.wrap ((m : Int) * 4) = ((m * 4 : Nat) : Int) := by rw [IntKind.wrap_u32]; omega
      have HM := Shut.mk hm2
      obtain ⟨q, hq⟩ : ∃ q, invN m = q := ⟨_, rfl⟩
      have hq1 : (q : Int) ≤ 4294967296 := by have := invN_le m; omega
      have HQ := Shut.mk hq
      have hz : ((m : Int) == 0) = false := by simp; omega
      obtain ⟨z, hzz⟩ := Int.eq_ofNat_of_zero_le (show 0 ≤ (q : Int) / 2 by omega)
      have HZ := Shut.mk (inv_half (m := m) (Z := (m * 4)) (by omega) hq hzz rfl)
      have hz1 : (z : Int) ≤ 4294967296 := by omega
      obtain ⟨T, hT⟩ : ∃ T, nextN t i b = T := ⟨_, rfl⟩
      obtain ⟨U, hU⟩ : ∃ U, nextN t i a = U := ⟨_, rfl⟩
      have k1 : U ≤ T := by rw [← hT, ← hU]; exact next_falls HAB
      have k2 : 0 ≤ U := by have h := next_low t i a; rw [ht] at h; rw [← hU]; exact h
      have k3 : T ≤ 0 + 1073741824 := by have h := next_high t i b; rw [ht] at h; rw [← hT]; exact h
      have HT := Shut.mk hT
      have HU := Shut.mk hU
      have k4 : T ≤ 1073741824 := by omega
      have k5 : 0 ≤ T := by omega
      have k6 : T ≤ 1125899906842624 + 1073741824 := by omega
      have k7 : 0 ≤ U := by omega
      have k8 : U ≤ 1125899906842624 + 1073741824 := by omega
      clear hx hy hme hq hT hU k3 hm2
      try clear ht
      clear ha hb HAB
      go_enter Try.func5, Try.ntmps5
      go_wp2_with (fail)
      refine (first_any _).mono ?_
      rintro e wn ⟨rfl, rfl⟩
      go_wp2_with (fail)
      refine (inv_any b _ HA.out).mono ?_
      rintro e wn ⟨rfl, rfl⟩
      rw [HX.out]
      go_wp2_with (fail)
      refine (inv_any a _ HB.out).mono ?_
      rintro e wn ⟨rfl, rfl⟩
      rw [HY.out]
      go_wp2_with (fail)
      refine (inv_any m _ (by first | decide | (have := HM.out; omega))).mono ?_
      rintro e wn ⟨rfl, rfl⟩
      rw [HQ.out]
      go_wp2_with (fail)
      refine (inv_any (m * 4) _ (by first | decide | (have := HM.out; omega))).mono ?_
      rintro e wn ⟨rfl, rfl⟩
      rw [HZ.out]
      go_wp2_with (fail)
      refine (next_any t i b _ HA.out).mono ?_
      rintro e wn ⟨rfl, rfl⟩
      rw [HT.out]
      go_wp2_with (fail)
      refine (next_any t i a _ HB.out).mono ?_
      rintro e wn ⟨rfl, rfl⟩
      rw [HU.out]
      go_wp2
      go_ret
      exact ⟨rfl, Grown.refl _⟩

set_option maxRecDepth 100000 in
set_option maxHeartbeats 4000000 in
theorem walk_1 (t i : Int) (a b : Nat) (w : World) (ha : a < 4294967296) (hb : b < 4294967296) (ht0 : 0 ≤ t ∧ t ≤ 1125899906842624) :
    Calls Try.prog 5 #[.int .u32 a, .int .u32 b, .int .i64 t, .int .i64 i] w fun e w' => e = .returned (.bool true) ∧ Grown w w' := by
  have ht : clampR t 0 1125899906842624 = t := by unfold clampR; omega
  have h1 : ¬ t < 0 := by omega
  have h2 : ¬ 1125899906842624 < t := by omega
  clear ht0
  rcases (by omega : (a = 0 ∧ b = 0) ∨ (a = 0 ∧ 0 < b) ∨ (b = 0 ∧ 0 < a) ∨ (0 < a ∧ a ≤ b) ∨ (0 < b ∧ b < a)) with h | h | h | h | h
  · obtain ⟨rfl, rfl⟩ := h
    have HAB : (1 : Nat) ≤ 1 := by omega
    obtain ⟨x, hx⟩ : ∃ x, invN 1 = x := ⟨_, rfl⟩
    obtain ⟨y, hy⟩ : ∃ y, invN 1 = y := ⟨_, rfl⟩
    have hx1 : (x : Int) ≤ 4294967296 := by have := invN_le 1; omega
    have hy1 : (65536 : Int) ≤ (y : Int) := by have := inv_low 1 (by decide); omega
    have hy2 : (y : Int) ≤ 4294967296 := by have := invN_le 1; omega
    have hyx : (y : Int) ≤ (x : Int) := by have := invN_anti HAB; omega
    have HX := Shut.mk hx
    have HY := Shut.mk hy
    have hm : bits .and .u32 1 1073741823 = 1 := by decide
    obtain ⟨m, hme⟩ : ∃ m : Nat, m = 1 := ⟨_, rfl⟩
    obtain ⟨q, hq⟩ : ∃ q, invN (1 : Nat) = q := ⟨_, rfl⟩
    have hq1 : (q : Int) ≤ 4294967296 := by have := invN_le (1 : Nat); omega
    have HQ := Shut.mk hq
    obtain ⟨z, hzz⟩ := Int.eq_ofNat_of_zero_le (show 0 ≤ (q : Int) / 2 by omega)
    have HZ := Shut.mk (inv_half (m := 1) (Z := 4) (by omega) hq hzz rfl)
    have hz1 : (z : Int) ≤ 4294967296 := by omega
    obtain ⟨T, hT⟩ : ∃ T, nextN t i 1 = T := ⟨_, rfl⟩
    obtain ⟨U, hU⟩ : ∃ U, nextN t i 1 = U := ⟨_, rfl⟩
    have k1 : U ≤ T := by rw [← hT, ← hU]; exact next_falls HAB
    have k2 : t ≤ U := by have h := next_low t i 1; rw [ht] at h; rw [← hU]; exact h
    have k3 : T ≤ t + 1073741824 := by have h := next_high t i 1; rw [ht] at h; rw [← hT]; exact h
    have HT := Shut.mk hT
    have HU := Shut.mk hU
    have k4 : T - t ≤ 1073741824 := by omega
    have k5 : t ≤ T := by omega
    have k6 : T ≤ 1125899906842624 + 1073741824 := by omega
    have k7 : 0 ≤ U := by omega
    have k8 : U ≤ 1125899906842624 + 1073741824 := by omega
    clear hx hy hme hq hT hU k3
    try clear ht
    clear ha hb HAB
    go_enter Try.func5, Try.ntmps5
    go_wp2_with (fail)
    refine (first_any _).mono ?_
    rintro e wn ⟨rfl, rfl⟩
    go_wp2_with (fail)
    refine (inv_any 1 _ (by decide)).mono ?_
    rintro e wn ⟨rfl, rfl⟩
    rw [HX.out]
    go_wp2_with (fail)
    refine (inv_any 1 _ (by decide)).mono ?_
    rintro e wn ⟨rfl, rfl⟩
    rw [HY.out]
    go_wp2_with (fail)
    refine (inv_any 1 _ (by first | decide | (have := HM.out; omega))).mono ?_
    rintro e wn ⟨rfl, rfl⟩
    rw [HQ.out]
    go_wp2_with (fail)
    refine (inv_any 4 _ (by first | decide | (have := HM.out; omega))).mono ?_
    rintro e wn ⟨rfl, rfl⟩
    rw [HZ.out]
    go_wp2_with (fail)
    refine (next_any t i 1 _ (by decide)).mono ?_
    rintro e wn ⟨rfl, rfl⟩
    rw [HT.out]
    go_wp2_with (fail)
    refine (next_any t i 1 _ (by decide)).mono ?_
    rintro e wn ⟨rfl, rfl⟩
    rw [HU.out]
    go_wp2
    go_ret
    exact ⟨rfl, Grown.refl _⟩
  · obtain ⟨rfl, h0⟩ := h
    have hb0 : (1 : Int) ≤ (b : Int) := by omega
    have hb1 : ¬ (b : Int) < 0 := by omega
    have hb2 : ¬ (b : Int) < 1 := by omega
    have HAB : (1 : Nat) ≤ b := by omega
    have HB := Shut.mk (show (b : Nat) < 4294967296 by omega)
    obtain ⟨x, hx⟩ : ∃ x, invN 1 = x := ⟨_, rfl⟩
    obtain ⟨y, hy⟩ : ∃ y, invN b = y := ⟨_, rfl⟩
    have hx1 : (x : Int) ≤ 4294967296 := by have := invN_le 1; omega
    have hy1 : (65536 : Int) ≤ (y : Int) := by have := inv_low b HB.out; omega
    have hy2 : (y : Int) ≤ 4294967296 := by have := invN_le b; omega
    have hyx : (y : Int) ≤ (x : Int) := by have := invN_anti HAB; omega
    have HX := Shut.mk hx
    have HY := Shut.mk hy
    have hm : bits .and .u32 1 1073741823 = 1 := by decide
    obtain ⟨m, hme⟩ : ∃ m : Nat, m = 1 := ⟨_, rfl⟩
    obtain ⟨q, hq⟩ : ∃ q, invN (1 : Nat) = q := ⟨_, rfl⟩
    have hq1 : (q : Int) ≤ 4294967296 := by have := invN_le (1 : Nat); omega
    have HQ := Shut.mk hq
    obtain ⟨z, hzz⟩ := Int.eq_ofNat_of_zero_le (show 0 ≤ (q : Int) / 2 by omega)
    have HZ := Shut.mk (inv_half (m := 1) (Z := 4) (by omega) hq hzz rfl)
    have hz1 : (z : Int) ≤ 4294967296 := by omega
    obtain ⟨T, hT⟩ : ∃ T, nextN t i 1 = T := ⟨_, rfl⟩
    obtain ⟨U, hU⟩ : ∃ U, nextN t i b = U := ⟨_, rfl⟩
    have k1 : U ≤ T := by rw [← hT, ← hU]; exact next_falls HAB
    have k2 : t ≤ U := by have h := next_low t i b; rw [ht] at h; rw [← hU]; exact h
    have k3 : T ≤ t + 1073741824 := by have h := next_high t i 1; rw [ht] at h; rw [← hT]; exact h
    have HT := Shut.mk hT
    have HU := Shut.mk hU
    have k4 : T - t ≤ 1073741824 := by omega
    have k5 : t ≤ T := by omega
    have k6 : T ≤ 1125899906842624 + 1073741824 := by omega
    have k7 : 0 ≤ U := by omega
    have k8 : U ≤ 1125899906842624 + 1073741824 := by omega
    clear hx hy hme hq hT hU k3
    try clear ht
    clear ha hb HAB
    go_enter Try.func5, Try.ntmps5
    go_wp2_with (fail)
    refine (first_any _).mono ?_
    rintro e wn ⟨rfl, rfl⟩
    go_wp2_with (fail)
    refine (inv_any 1 _ (by decide)).mono ?_
    rintro e wn ⟨rfl, rfl⟩
    rw [HX.out]
    go_wp2_with (fail)
    refine (inv_any b _ HB.out).mono ?_
    rintro e wn ⟨rfl, rfl⟩
    rw [HY.out]
    go_wp2_with (fail)
    refine (inv_any 1 _ (by first | decide | (have := HM.out; omega))).mono ?_
    rintro e wn ⟨rfl, rfl⟩
    rw [HQ.out]
    go_wp2_with (fail)
    refine (inv_any 4 _ (by first | decide | (have := HM.out; omega))).mono ?_
    rintro e wn ⟨rfl, rfl⟩
    rw [HZ.out]
    go_wp2_with (fail)
    refine (next_any t i 1 _ (by decide)).mono ?_
    rintro e wn ⟨rfl, rfl⟩
    rw [HT.out]
    go_wp2_with (fail)
    refine (next_any t i b _ HB.out).mono ?_
    rintro e wn ⟨rfl, rfl⟩
    rw [HU.out]
    go_wp2
    go_ret
    exact ⟨rfl, Grown.refl _⟩
  · obtain ⟨rfl, h0⟩ := h
    have hb0 : (1 : Int) ≤ (a : Int) := by omega
    have hb1 : (0 : Int) < (a : Int) := by omega
    have hb2 : ¬ (a : Int) < 1 := by omega
    have HAB : (1 : Nat) ≤ a := by omega
    have HB := Shut.mk (show (a : Nat) < 4294967296 by omega)
    obtain ⟨x, hx⟩ : ∃ x, invN 1 = x := ⟨_, rfl⟩
    obtain ⟨y, hy⟩ : ∃ y, invN a = y := ⟨_, rfl⟩
    have hx1 : (x : Int) ≤ 4294967296 := by have := invN_le 1; omega
    have hy1 : (65536 : Int) ≤ (y : Int) := by have := inv_low a HB.out; omega
    have hy2 : (y : Int) ≤ 4294967296 := by have := invN_le a; omega
    have hyx : (y : Int) ≤ (x : Int) := by have := invN_anti HAB; omega
    have HX := Shut.mk hx
    have HY := Shut.mk hy
    have hm : bits .and .u32 1 1073741823 = 1 := by decide
    obtain ⟨m, hme⟩ : ∃ m : Nat, m = 1 := ⟨_, rfl⟩
    obtain ⟨q, hq⟩ : ∃ q, invN (1 : Nat) = q := ⟨_, rfl⟩
    have hq1 : (q : Int) ≤ 4294967296 := by have := invN_le (1 : Nat); omega
    have HQ := Shut.mk hq
    obtain ⟨z, hzz⟩ := Int.eq_ofNat_of_zero_le (show 0 ≤ (q : Int) / 2 by omega)
    have HZ := Shut.mk (inv_half (m := 1) (Z := 4) (by omega) hq hzz rfl)
    have hz1 : (z : Int) ≤ 4294967296 := by omega
    obtain ⟨T, hT⟩ : ∃ T, nextN t i 1 = T := ⟨_, rfl⟩
    obtain ⟨U, hU⟩ : ∃ U, nextN t i a = U := ⟨_, rfl⟩
    have k1 : U ≤ T := by rw [← hT, ← hU]; exact next_falls HAB
    have k2 : t ≤ U := by have h := next_low t i a; rw [ht] at h; rw [← hU]; exact h
    have k3 : T ≤ t + 1073741824 := by have h := next_high t i 1; rw [ht] at h; rw [← hT]; exact h
    have HT := Shut.mk hT
    have HU := Shut.mk hU
    have k4 : T - t ≤ 1073741824 := by omega
    have k5 : t ≤ T := by omega
    have k6 : T ≤ 1125899906842624 + 1073741824 := by omega
    have k7 : 0 ≤ U := by omega
    have k8 : U ≤ 1125899906842624 + 1073741824 := by omega
    clear hx hy hme hq hT hU k3
    try clear ht
    clear ha hb HAB
    go_enter Try.func5, Try.ntmps5
    go_wp2_with (fail)
    refine (first_any _).mono ?_
    rintro e wn ⟨rfl, rfl⟩
    go_wp2_with (fail)
    refine (inv_any 1 _ (by decide)).mono ?_
    rintro e wn ⟨rfl, rfl⟩
    rw [HX.out]
    go_wp2_with (fail)
    refine (inv_any a _ HB.out).mono ?_
    rintro e wn ⟨rfl, rfl⟩
    rw [HY.out]
    go_wp2_with (fail)
    refine (inv_any 1 _ (by first | decide | (have := HM.out; omega))).mono ?_
    rintro e wn ⟨rfl, rfl⟩
    rw [HQ.out]
    go_wp2_with (fail)
    refine (inv_any 4 _ (by first | decide | (have := HM.out; omega))).mono ?_
    rintro e wn ⟨rfl, rfl⟩
    rw [HZ.out]
    go_wp2_with (fail)
    refine (next_any t i 1 _ (by decide)).mono ?_
    rintro e wn ⟨rfl, rfl⟩
    rw [HT.out]
    go_wp2_with (fail)
    refine (next_any t i a _ HB.out).mono ?_
    rintro e wn ⟨rfl, rfl⟩
    rw [HU.out]
    go_wp2
    go_ret
    exact ⟨rfl, Grown.refl _⟩
  · obtain ⟨h0, h1'⟩ := h
    have hc : ¬ (b : Int) < (a : Int) := by omega
    have hb1 : ((a : Int) == 0) = false := by simp; omega
    have hb2 : ¬ (b : Int) < 1 := by omega
    rcases (by omega : a % 1073741824 = 0 ∨ 0 < a % 1073741824) with hm0 | hm0
    · have HAB : (a : Nat) ≤ b := by omega
      have HA := Shut.mk (show (a : Nat) < 4294967296 by omega)
      have HB := Shut.mk (show (b : Nat) < 4294967296 by omega)
      obtain ⟨x, hx⟩ : ∃ x, invN a = x := ⟨_, rfl⟩
      obtain ⟨y, hy⟩ : ∃ y, invN b = y := ⟨_, rfl⟩
      have hx1 : (x : Int) ≤ 4294967296 := by have := invN_le a; omega
      have hy1 : (65536 : Int) ≤ (y : Int) := by have := inv_low b HB.out; omega
      have hy2 : (y : Int) ≤ 4294967296 := by have := invN_le b; omega
      have hyx : (y : Int) ≤ (x : Int) := by have := invN_anti HAB; omega
      have HX := Shut.mk hx
      have HY := Shut.mk hy
      obtain ⟨m, hme⟩ : ∃ m, a % 1073741824 = m := ⟨_, rfl⟩
      have hm : bits .and .u32 (a : Int) 1073741823 = (m : Int) := by rw [and30 _ HA.out, hme]
      have hm2 : m < 1073741824 := by omega
      have hm3 : IntKind.u32.wrap ((m : Int) * 4) = ((m * 4 : Nat) : Int) := by rw [IntKind.wrap_u32]; omega
      have HM := Shut.mk hm2
      obtain ⟨q, hq⟩ : ∃ q, invN m = q := ⟨_, rfl⟩
      have hq1 : (q : Int) ≤ 4294967296 := by have := invN_le m; omega
      have HQ := Shut.mk hq
      have hz : ((m : Int) == 0) = true := by rw [show m = 0 by omega]; rfl
      obtain ⟨z, hzz⟩ : ∃ z, invN (m * 4) = z := ⟨_, rfl⟩
      have HZ := Shut.mk hzz
      have hz1 : (z : Int) ≤ 4294967296 := by have := invN_le (m * 4); omega
      obtain ⟨T, hT⟩ : ∃ T, nextN t i a = T := ⟨_, rfl⟩
      obtain ⟨U, hU⟩ : ∃ U, nextN t i b = U := ⟨_, rfl⟩
      have k1 : U ≤ T := by rw [← hT, ← hU]; exact next_falls HAB
      have k2 : t ≤ U := by have h := next_low t i b; rw [ht] at h; rw [← hU]; exact h
      have k3 : T ≤ t + 1073741824 := by have h := next_high t i a; rw [ht] at h; rw [← hT]; exact h
      have HT := Shut.mk hT
      have HU := Shut.mk hU
      have k4 : T - t ≤ 1073741824 := by omega
      have k5 : t ≤ T := by omega
      have k6 : T ≤ 1125899906842624 + 1073741824 := by omega
      have k7 : 0 ≤ U := by omega
      have k8 : U ≤ 1125899906842624 + 1073741824 := by omega
      clear hx hy hme hq hT hU k3 hzz hm2
      try clear ht
      clear ha hb HAB
      go_enter Try.func5, Try.ntmps5
      go_wp2_with (fail)
      refine (first_any _).mono ?_
      rintro e wn ⟨rfl, rfl⟩
      go_wp2_with (fail)
      refine (inv_any a _ HA.out).mono ?_
      rintro e wn ⟨rfl, rfl⟩
      rw [HX.out]
      go_wp2_with (fail)
      refine (inv_any b _ HB.out).mono ?_
      rintro e wn ⟨rfl, rfl⟩
      rw [HY.out]
      go_wp2_with (fail)
      refine (inv_any m _ (by first | decide | (have := HM.out; omega))).mono ?_
      rintro e wn ⟨rfl, rfl⟩
      rw [HQ.out]
      go_wp2_with (fail)
      refine (inv_any (m * 4) _ (by first | decide | (have := HM.out; omega))).mono ?_
      rintro e wn ⟨rfl, rfl⟩
      rw [HZ.out]
      go_wp2_with (fail)
      refine (next_any t i a _ HA.out).mono ?_
      rintro e wn ⟨rfl, rfl⟩
      rw [HT.out]
      go_wp2_with (fail)
      refine (next_any t i b _ HB.out).mono ?_
      rintro e wn ⟨rfl, rfl⟩
      rw [HU.out]
      go_wp2
      go_ret
      exact ⟨rfl, Grown.refl _⟩
    · have HAB : (a : Nat) ≤ b := by omega
      have HA := Shut.mk (show (a : Nat) < 4294967296 by omega)
      have HB := Shut.mk (show (b : Nat) < 4294967296 by omega)
      obtain ⟨x, hx⟩ : ∃ x, invN a = x := ⟨_, rfl⟩
      obtain ⟨y, hy⟩ : ∃ y, invN b = y := ⟨_, rfl⟩
      have hx1 : (x : Int) ≤ 4294967296 := by have := invN_le a; omega
      have hy1 : (65536 : Int) ≤ (y : Int) := by have := inv_low b HB.out; omega
      have hy2 : (y : Int) ≤ 4294967296 := by have := invN_le b; omega
      have hyx : (y : Int) ≤ (x : Int) := by have := invN_anti HAB; omega
      have HX := Shut.mk hx
      have HY := Shut.mk hy
      obtain ⟨m, hme⟩ : ∃ m, a % 1073741824 = m := ⟨_, rfl⟩
      have hm : bits .and .u32 (a : Int) 1073741823 = (m : Int) := by rw [and30 _ HA.out, hme]
      have hm2 : m < 1073741824 := by omega
      have hm3 : IntKind.u32.wrap ((m : Int) * 4) = ((m * 4 : Nat) : Int) := by rw [IntKind.wrap_u32]; omega
      have HM := Shut.mk hm2
      obtain ⟨q, hq⟩ : ∃ q, invN m = q := ⟨_, rfl⟩
      have hq1 : (q : Int) ≤ 4294967296 := by have := invN_le m; omega
      have HQ := Shut.mk hq
      have hz : ((m : Int) == 0) = false := by simp; omega
      obtain ⟨z, hzz⟩ := Int.eq_ofNat_of_zero_le (show 0 ≤ (q : Int) / 2 by omega)
      have HZ := Shut.mk (inv_half (m := m) (Z := (m * 4)) (by omega) hq hzz rfl)
      have hz1 : (z : Int) ≤ 4294967296 := by omega
      obtain ⟨T, hT⟩ : ∃ T, nextN t i a = T := ⟨_, rfl⟩
      obtain ⟨U, hU⟩ : ∃ U, nextN t i b = U := ⟨_, rfl⟩
      have k1 : U ≤ T := by rw [← hT, ← hU]; exact next_falls HAB
      have k2 : t ≤ U := by have h := next_low t i b; rw [ht] at h; rw [← hU]; exact h
      have k3 : T ≤ t + 1073741824 := by have h := next_high t i a; rw [ht] at h; rw [← hT]; exact h
      have HT := Shut.mk hT
      have HU := Shut.mk hU
      have k4 : T - t ≤ 1073741824 := by omega
      have k5 : t ≤ T := by omega
      have k6 : T ≤ 1125899906842624 + 1073741824 := by omega
      have k7 : 0 ≤ U := by omega
      have k8 : U ≤ 1125899906842624 + 1073741824 := by omega
      clear hx hy hme hq hT hU k3 hm2
      try clear ht
      clear ha hb HAB
      go_enter Try.func5, Try.ntmps5
      go_wp2_with (fail)
      refine (first_any _).mono ?_
      rintro e wn ⟨rfl, rfl⟩
      go_wp2_with (fail)
      refine (inv_any a _ HA.out).mono ?_
      rintro e wn ⟨rfl, rfl⟩
      rw [HX.out]
      go_wp2_with (fail)
      refine (inv_any b _ HB.out).mono ?_
      rintro e wn ⟨rfl, rfl⟩
      rw [HY.out]
      go_wp2_with (fail)
      refine (inv_any m _ (by first | decide | (have := HM.out; omega))).mono ?_
      rintro e wn ⟨rfl, rfl⟩
      rw [HQ.out]
      go_wp2_with (fail)
      refine (inv_any (m * 4) _ (by first | decide | (have := HM.out; omega))).mono ?_
      rintro e wn ⟨rfl, rfl⟩
      rw [HZ.out]
      go_wp2_with (fail)
      refine (next_any t i a _ HA.out).mono ?_
      rintro e wn ⟨rfl, rfl⟩
      rw [HT.out]
      go_wp2_with (fail)
      refine (next_any t i b _ HB.out).mono ?_
      rintro e wn ⟨rfl, rfl⟩
      rw [HU.out]
      go_wp2
      go_ret
      exact ⟨rfl, Grown.refl _⟩
  · obtain ⟨h0, h1'⟩ := h
    have hc : (b : Int) < (a : Int) := by omega
    have hb1 : ((b : Int) == 0) = false := by simp; omega
    have hb2 : ¬ (a : Int) < 1 := by omega
    rcases (by omega : b % 1073741824 = 0 ∨ 0 < b % 1073741824) with hm0 | hm0
    · have HAB : (b : Nat) ≤ a := by omega
      have HA := Shut.mk (show (b : Nat) < 4294967296 by omega)
      have HB := Shut.mk (show (a : Nat) < 4294967296 by omega)
      obtain ⟨x, hx⟩ : ∃ x, invN b = x := ⟨_, rfl⟩
      obtain ⟨y, hy⟩ : ∃ y, invN a = y := ⟨_, rfl⟩
      have hx1 : (x : Int) ≤ 4294967296 := by have := invN_le b; omega
      have hy1 : (65536 : Int) ≤ (y : Int) := by have := inv_low a HB.out; omega
      have hy2 : (y : Int) ≤ 4294967296 := by have := invN_le a; omega
      have hyx : (y : Int) ≤ (x : Int) := by have := invN_anti HAB; omega
      have HX := Shut.mk hx
      have HY := Shut.mk hy
      obtain ⟨m, hme⟩ : ∃ m, b % 1073741824 = m := ⟨_, rfl⟩
      have hm : bits .and .u32 (b : Int) 1073741823 = (m : Int) := by rw [and30 _ HA.out, hme]
      have hm2 : m < 1073741824 := by omega
      have hm3 : IntKind.u32.wrap ((m : Int) * 4) = ((m * 4 : Nat) : Int) := by rw [IntKind.wrap_u32]; omega
      have HM := Shut.mk hm2
      obtain ⟨q, hq⟩ : ∃ q, invN m = q := ⟨_, rfl⟩
      have hq1 : (q : Int) ≤ 4294967296 := by have := invN_le m; omega
      have HQ := Shut.mk hq
      have hz : ((m : Int) == 0) = true := by rw [show m = 0 by omega]; rfl
      obtain ⟨z, hzz⟩ : ∃ z, invN (m * 4) = z := ⟨_, rfl⟩
      have HZ := Shut.mk hzz
      have hz1 : (z : Int) ≤ 4294967296 := by have := invN_le (m * 4); omega
      obtain ⟨T, hT⟩ : ∃ T, nextN t i b = T := ⟨_, rfl⟩
      obtain ⟨U, hU⟩ : ∃ U, nextN t i a = U := ⟨_, rfl⟩
      have k1 : U ≤ T := by rw [← hT, ← hU]; exact next_falls HAB
      have k2 : t ≤ U := by have h := next_low t i a; rw [ht] at h; rw [← hU]; exact h
      have k3 : T ≤ t + 1073741824 := by have h := next_high t i b; rw [ht] at h; rw [← hT]; exact h
      have HT := Shut.mk hT
      have HU := Shut.mk hU
      have k4 : T - t ≤ 1073741824 := by omega
      have k5 : t ≤ T := by omega
      have k6 : T ≤ 1125899906842624 + 1073741824 := by omega
      have k7 : 0 ≤ U := by omega
      have k8 : U ≤ 1125899906842624 + 1073741824 := by omega
      clear hx hy hme hq hT hU k3 hzz hm2
      try clear ht
      clear ha hb HAB
      go_enter Try.func5, Try.ntmps5
      go_wp2_with (fail)
      refine (first_any _).mono ?_
      rintro e wn ⟨rfl, rfl⟩
      go_wp2_with (fail)
      refine (inv_any b _ HA.out).mono ?_
      rintro e wn ⟨rfl, rfl⟩
      rw [HX.out]
      go_wp2_with (fail)
      refine (inv_any a _ HB.out).mono ?_
      rintro e wn ⟨rfl, rfl⟩
      rw [HY.out]
      go_wp2_with (fail)
      refine (inv_any m _ (by first | decide | (have := HM.out; omega))).mono ?_
      rintro e wn ⟨rfl, rfl⟩
      rw [HQ.out]
      go_wp2_with (fail)
      refine (inv_any (m * 4) _ (by first | decide | (have := HM.out; omega))).mono ?_
      rintro e wn ⟨rfl, rfl⟩
      rw [HZ.out]
      go_wp2_with (fail)
      refine (next_any t i b _ HA.out).mono ?_
      rintro e wn ⟨rfl, rfl⟩
      rw [HT.out]
      go_wp2_with (fail)
      refine (next_any t i a _ HB.out).mono ?_
      rintro e wn ⟨rfl, rfl⟩
      rw [HU.out]
      go_wp2
      go_ret
      exact ⟨rfl, Grown.refl _⟩
    · have HAB : (b : Nat) ≤ a := by omega
      have HA := Shut.mk (show (b : Nat) < 4294967296 by omega)
      have HB := Shut.mk (show (a : Nat) < 4294967296 by omega)
      obtain ⟨x, hx⟩ : ∃ x, invN b = x := ⟨_, rfl⟩
      obtain ⟨y, hy⟩ : ∃ y, invN a = y := ⟨_, rfl⟩
      have hx1 : (x : Int) ≤ 4294967296 := by have := invN_le b; omega
      have hy1 : (65536 : Int) ≤ (y : Int) := by have := inv_low a HB.out; omega
      have hy2 : (y : Int) ≤ 4294967296 := by have := invN_le a; omega
      have hyx : (y : Int) ≤ (x : Int) := by have := invN_anti HAB; omega
      have HX := Shut.mk hx
      have HY := Shut.mk hy
      obtain ⟨m, hme⟩ : ∃ m, b % 1073741824 = m := ⟨_, rfl⟩
      have hm : bits .and .u32 (b : Int) 1073741823 = (m : Int) := by rw [and30 _ HA.out, hme]
      have hm2 : m < 1073741824 := by omega
      have hm3 : IntKind.u32.wrap ((m : Int) * 4) = ((m * 4 : Nat) : Int) := by rw [IntKind.wrap_u32]; omega
      have HM := Shut.mk hm2
      obtain ⟨q, hq⟩ : ∃ q, invN m = q := ⟨_, rfl⟩
      have hq1 : (q : Int) ≤ 4294967296 := by have := invN_le m; omega
      have HQ := Shut.mk hq
      have hz : ((m : Int) == 0) = false := by simp; omega
      obtain ⟨z, hzz⟩ := Int.eq_ofNat_of_zero_le (show 0 ≤ (q : Int) / 2 by omega)
      have HZ := Shut.mk (inv_half (m := m) (Z := (m * 4)) (by omega) hq hzz rfl)
      have hz1 : (z : Int) ≤ 4294967296 := by omega
      obtain ⟨T, hT⟩ : ∃ T, nextN t i b = T := ⟨_, rfl⟩
      obtain ⟨U, hU⟩ : ∃ U, nextN t i a = U := ⟨_, rfl⟩
      have k1 : U ≤ T := by rw [← hT, ← hU]; exact next_falls HAB
      have k2 : t ≤ U := by have h := next_low t i a; rw [ht] at h; rw [← hU]; exact h
      have k3 : T ≤ t + 1073741824 := by have h := next_high t i b; rw [ht] at h; rw [← hT]; exact h
      have HT := Shut.mk hT
      have HU := Shut.mk hU
      have k4 : T - t ≤ 1073741824 := by omega
      have k5 : t ≤ T := by omega
      have k6 : T ≤ 1125899906842624 + 1073741824 := by omega
      have k7 : 0 ≤ U := by omega
      have k8 : U ≤ 1125899906842624 + 1073741824 := by omega
      clear hx hy hme hq hT hU k3 hm2
      try clear ht
      clear ha hb HAB
      go_enter Try.func5, Try.ntmps5
      go_wp2_with (fail)
      refine (first_any _).mono ?_
      rintro e wn ⟨rfl, rfl⟩
      go_wp2_with (fail)
      refine (inv_any b _ HA.out).mono ?_
      rintro e wn ⟨rfl, rfl⟩
      rw [HX.out]
      go_wp2_with (fail)
      refine (inv_any a _ HB.out).mono ?_
      rintro e wn ⟨rfl, rfl⟩
      rw [HY.out]
      go_wp2_with (fail)
      refine (inv_any m _ (by first | decide | (have := HM.out; omega))).mono ?_
      rintro e wn ⟨rfl, rfl⟩
      rw [HQ.out]
      go_wp2_with (fail)
      refine (inv_any (m * 4) _ (by first | decide | (have := HM.out; omega))).mono ?_
      rintro e wn ⟨rfl, rfl⟩
      rw [HZ.out]
      go_wp2_with (fail)
      refine (next_any t i b _ HA.out).mono ?_
      rintro e wn ⟨rfl, rfl⟩
      rw [HT.out]
      go_wp2_with (fail)
      refine (next_any t i a _ HB.out).mono ?_
      rintro e wn ⟨rfl, rfl⟩
      rw [HU.out]
      go_wp2
      go_ret
      exact ⟨rfl, Grown.refl _⟩

set_option maxRecDepth 100000 in
set_option maxHeartbeats 4000000 in
theorem walk_2 (t i : Int) (a b : Nat) (w : World) (ha : a < 4294967296) (hb : b < 4294967296) (ht0 : 1125899906842624 < t) :
    Calls Try.prog 5 #[.int .u32 a, .int .u32 b, .int .i64 t, .int .i64 i] w fun e w' => e = .returned (.bool true) ∧ Grown w w' := by
  have ht : clampR t 0 1125899906842624 = 1125899906842624 := by unfold clampR; omega
  have h1 : ¬ t < 0 := by omega
  have h2 : 1125899906842624 < t := by omega
  clear ht0
  rcases (by omega : (a = 0 ∧ b = 0) ∨ (a = 0 ∧ 0 < b) ∨ (b = 0 ∧ 0 < a) ∨ (0 < a ∧ a ≤ b) ∨ (0 < b ∧ b < a)) with h | h | h | h | h
  · obtain ⟨rfl, rfl⟩ := h
    have HAB : (1 : Nat) ≤ 1 := by omega
    obtain ⟨x, hx⟩ : ∃ x, invN 1 = x := ⟨_, rfl⟩
    obtain ⟨y, hy⟩ : ∃ y, invN 1 = y := ⟨_, rfl⟩
    have hx1 : (x : Int) ≤ 4294967296 := by have := invN_le 1; omega
    have hy1 : (65536 : Int) ≤ (y : Int) := by have := inv_low 1 (by decide); omega
    have hy2 : (y : Int) ≤ 4294967296 := by have := invN_le 1; omega
    have hyx : (y : Int) ≤ (x : Int) := by have := invN_anti HAB; omega
    have HX := Shut.mk hx
    have HY := Shut.mk hy
    have hm : bits .and .u32 1 1073741823 = 1 := by decide
    obtain ⟨m, hme⟩ : ∃ m : Nat, m = 1 := ⟨_, rfl⟩
    obtain ⟨q, hq⟩ : ∃ q, invN (1 : Nat) = q := ⟨_, rfl⟩
    have hq1 : (q : Int) ≤ 4294967296 := by have := invN_le (1 : Nat); omega
    have HQ := Shut.mk hq
    obtain ⟨z, hzz⟩ := Int.eq_ofNat_of_zero_le (show 0 ≤ (q : Int) / 2 by omega)
    have HZ := Shut.mk (inv_half (m := 1) (Z := 4) (by omega) hq hzz rfl)
    have hz1 : (z : Int) ≤ 4294967296 := by omega
    obtain ⟨T, hT⟩ : ∃ T, nextN t i 1 = T := ⟨_, rfl⟩
    obtain ⟨U, hU⟩ : ∃ U, nextN t i 1 = U := ⟨_, rfl⟩
    have k1 : U ≤ T := by rw [← hT, ← hU]; exact next_falls HAB
    have k2 : 1125899906842624 ≤ U := by have h := next_low t i 1; rw [ht] at h; rw [← hU]; exact h
    have k3 : T ≤ 1125899906842624 + 1073741824 := by have h := next_high t i 1; rw [ht] at h; rw [← hT]; exact h
    have HT := Shut.mk hT
    have HU := Shut.mk hU
    have k4 : T - 1125899906842624 ≤ 1073741824 := by omega
    have k5 : 1125899906842624 ≤ T := by omega
    have k6 : T ≤ 1125899906842624 + 1073741824 := by omega
    have k7 : 0 ≤ U := by omega
    have k8 : U ≤ 1125899906842624 + 1073741824 := by omega
    clear hx hy hme hq hT hU k3
    try clear ht
    clear ha hb HAB
    go_enter Try.func5, Try.ntmps5
    go_wp2_with (fail)
    refine (first_any _).mono ?_
    rintro e wn ⟨rfl, rfl⟩
    go_wp2_with (fail)
    refine (inv_any 1 _ (by decide)).mono ?_
    rintro e wn ⟨rfl, rfl⟩
    rw [HX.out]
    go_wp2_with (fail)
    refine (inv_any 1 _ (by decide)).mono ?_
    rintro e wn ⟨rfl, rfl⟩
    rw [HY.out]
    go_wp2_with (fail)
    refine (inv_any 1 _ (by first | decide | (have := HM.out; omega))).mono ?_
    rintro e wn ⟨rfl, rfl⟩
    rw [HQ.out]
    go_wp2_with (fail)
    refine (inv_any 4 _ (by first | decide | (have := HM.out; omega))).mono ?_
    rintro e wn ⟨rfl, rfl⟩
    rw [HZ.out]
    go_wp2_with (fail)
    refine (next_any t i 1 _ (by decide)).mono ?_
    rintro e wn ⟨rfl, rfl⟩
    rw [HT.out]
    go_wp2_with (fail)
    refine (next_any t i 1 _ (by decide)).mono ?_
    rintro e wn ⟨rfl, rfl⟩
    rw [HU.out]
    go_wp2
    go_ret
    exact ⟨rfl, Grown.refl _⟩
  · obtain ⟨rfl, h0⟩ := h
    have hb0 : (1 : Int) ≤ (b : Int) := by omega
    have hb1 : ¬ (b : Int) < 0 := by omega
    have hb2 : ¬ (b : Int) < 1 := by omega
    have HAB : (1 : Nat) ≤ b := by omega
    have HB := Shut.mk (show (b : Nat) < 4294967296 by omega)
    obtain ⟨x, hx⟩ : ∃ x, invN 1 = x := ⟨_, rfl⟩
    obtain ⟨y, hy⟩ : ∃ y, invN b = y := ⟨_, rfl⟩
    have hx1 : (x : Int) ≤ 4294967296 := by have := invN_le 1; omega
    have hy1 : (65536 : Int) ≤ (y : Int) := by have := inv_low b HB.out; omega
    have hy2 : (y : Int) ≤ 4294967296 := by have := invN_le b; omega
    have hyx : (y : Int) ≤ (x : Int) := by have := invN_anti HAB; omega
    have HX := Shut.mk hx
    have HY := Shut.mk hy
    have hm : bits .and .u32 1 1073741823 = 1 := by decide
    obtain ⟨m, hme⟩ : ∃ m : Nat, m = 1 := ⟨_, rfl⟩
    obtain ⟨q, hq⟩ : ∃ q, invN (1 : Nat) = q := ⟨_, rfl⟩
    have hq1 : (q : Int) ≤ 4294967296 := by have := invN_le (1 : Nat); omega
    have HQ := Shut.mk hq
    obtain ⟨z, hzz⟩ := Int.eq_ofNat_of_zero_le (show 0 ≤ (q : Int) / 2 by omega)
    have HZ := Shut.mk (inv_half (m := 1) (Z := 4) (by omega) hq hzz rfl)
    have hz1 : (z : Int) ≤ 4294967296 := by omega
    obtain ⟨T, hT⟩ : ∃ T, nextN t i 1 = T := ⟨_, rfl⟩
    obtain ⟨U, hU⟩ : ∃ U, nextN t i b = U := ⟨_, rfl⟩
    have k1 : U ≤ T := by rw [← hT, ← hU]; exact next_falls HAB
    have k2 : 1125899906842624 ≤ U := by have h := next_low t i b; rw [ht] at h; rw [← hU]; exact h
    have k3 : T ≤ 1125899906842624 + 1073741824 := by have h := next_high t i 1; rw [ht] at h; rw [← hT]; exact h
    have HT := Shut.mk hT
    have HU := Shut.mk hU
    have k4 : T - 1125899906842624 ≤ 1073741824 := by omega
    have k5 : 1125899906842624 ≤ T := by omega
    have k6 : T ≤ 1125899906842624 + 1073741824 := by omega
    have k7 : 0 ≤ U := by omega
    have k8 : U ≤ 1125899906842624 + 1073741824 := by omega
    clear hx hy hme hq hT hU k3
    try clear ht
    clear ha hb HAB
    go_enter Try.func5, Try.ntmps5
    go_wp2_with (fail)
    refine (first_any _).mono ?_
    rintro e wn ⟨rfl, rfl⟩
    go_wp2_with (fail)
    refine (inv_any 1 _ (by decide)).mono ?_
    rintro e wn ⟨rfl, rfl⟩
    rw [HX.out]
    go_wp2_with (fail)
    refine (inv_any b _ HB.out).mono ?_
    rintro e wn ⟨rfl, rfl⟩
    rw [HY.out]
    go_wp2_with (fail)
    refine (inv_any 1 _ (by first | decide | (have := HM.out; omega))).mono ?_
    rintro e wn ⟨rfl, rfl⟩
    rw [HQ.out]
    go_wp2_with (fail)
    refine (inv_any 4 _ (by first | decide | (have := HM.out; omega))).mono ?_
    rintro e wn ⟨rfl, rfl⟩
    rw [HZ.out]
    go_wp2_with (fail)
    refine (next_any t i 1 _ (by decide)).mono ?_
    rintro e wn ⟨rfl, rfl⟩
    rw [HT.out]
    go_wp2_with (fail)
    refine (next_any t i b _ HB.out).mono ?_
    rintro e wn ⟨rfl, rfl⟩
    rw [HU.out]
    go_wp2
    go_ret
    exact ⟨rfl, Grown.refl _⟩
  · obtain ⟨rfl, h0⟩ := h
    have hb0 : (1 : Int) ≤ (a : Int) := by omega
    have hb1 : (0 : Int) < (a : Int) := by omega
    have hb2 : ¬ (a : Int) < 1 := by omega
    have HAB : (1 : Nat) ≤ a := by omega
    have HB := Shut.mk (show (a : Nat) < 4294967296 by omega)
    obtain ⟨x, hx⟩ : ∃ x, invN 1 = x := ⟨_, rfl⟩
    obtain ⟨y, hy⟩ : ∃ y, invN a = y := ⟨_, rfl⟩
    have hx1 : (x : Int) ≤ 4294967296 := by have := invN_le 1; omega
    have hy1 : (65536 : Int) ≤ (y : Int) := by have := inv_low a HB.out; omega
    have hy2 : (y : Int) ≤ 4294967296 := by have := invN_le a; omega
    have hyx : (y : Int) ≤ (x : Int) := by have := invN_anti HAB; omega
    have HX := Shut.mk hx
    have HY := Shut.mk hy
    have hm : bits .and .u32 1 1073741823 = 1 := by decide
    obtain ⟨m, hme⟩ : ∃ m : Nat, m = 1 := ⟨_, rfl⟩
    obtain ⟨q, hq⟩ : ∃ q, invN (1 : Nat) = q := ⟨_, rfl⟩
    have hq1 : (q : Int) ≤ 4294967296 := by have := invN_le (1 : Nat); omega
    have HQ := Shut.mk hq
    obtain ⟨z, hzz⟩ := Int.eq_ofNat_of_zero_le (show 0 ≤ (q : Int) / 2 by omega)
    have HZ := Shut.mk (inv_half (m := 1) (Z := 4) (by omega) hq hzz rfl)
    have hz1 : (z : Int) ≤ 4294967296 := by omega
    obtain ⟨T, hT⟩ : ∃ T, nextN t i 1 = T := ⟨_, rfl⟩
    obtain ⟨U, hU⟩ : ∃ U, nextN t i a = U := ⟨_, rfl⟩
    have k1 : U ≤ T := by rw [← hT, ← hU]; exact next_falls HAB
    have k2 : 1125899906842624 ≤ U := by have h := next_low t i a; rw [ht] at h; rw [← hU]; exact h
    have k3 : T ≤ 1125899906842624 + 1073741824 := by have h := next_high t i 1; rw [ht] at h; rw [← hT]; exact h
    have HT := Shut.mk hT
    have HU := Shut.mk hU
    have k4 : T - 1125899906842624 ≤ 1073741824 := by omega
    have k5 : 1125899906842624 ≤ T := by omega
    have k6 : T ≤ 1125899906842624 + 1073741824 := by omega
    have k7 : 0 ≤ U := by omega
    have k8 : U ≤ 1125899906842624 + 1073741824 := by omega
    clear hx hy hme hq hT hU k3
    try clear ht
    clear ha hb HAB
    go_enter Try.func5, Try.ntmps5
    go_wp2_with (fail)
    refine (first_any _).mono ?_
    rintro e wn ⟨rfl, rfl⟩
    go_wp2_with (fail)
    refine (inv_any 1 _ (by decide)).mono ?_
    rintro e wn ⟨rfl, rfl⟩
    rw [HX.out]
    go_wp2_with (fail)
    refine (inv_any a _ HB.out).mono ?_
    rintro e wn ⟨rfl, rfl⟩
    rw [HY.out]
    go_wp2_with (fail)
    refine (inv_any 1 _ (by first | decide | (have := HM.out; omega))).mono ?_
    rintro e wn ⟨rfl, rfl⟩
    rw [HQ.out]
    go_wp2_with (fail)
    refine (inv_any 4 _ (by first | decide | (have := HM.out; omega))).mono ?_
    rintro e wn ⟨rfl, rfl⟩
    rw [HZ.out]
    go_wp2_with (fail)
    refine (next_any t i 1 _ (by decide)).mono ?_
    rintro e wn ⟨rfl, rfl⟩
    rw [HT.out]
    go_wp2_with (fail)
    refine (next_any t i a _ HB.out).mono ?_
    rintro e wn ⟨rfl, rfl⟩
    rw [HU.out]
    go_wp2
    go_ret
    exact ⟨rfl, Grown.refl _⟩
  · obtain ⟨h0, h1'⟩ := h
    have hc : ¬ (b : Int) < (a : Int) := by omega
    have hb1 : ((a : Int) == 0) = false := by simp; omega
    have hb2 : ¬ (b : Int) < 1 := by omega
    rcases (by omega : a % 1073741824 = 0 ∨ 0 < a % 1073741824) with hm0 | hm0
    · have HAB : (a : Nat) ≤ b := by omega
      have HA := Shut.mk (show (a : Nat) < 4294967296 by omega)
      have HB := Shut.mk (show (b : Nat) < 4294967296 by omega)
      obtain ⟨x, hx⟩ : ∃ x, invN a = x := ⟨_, rfl⟩
      obtain ⟨y, hy⟩ : ∃ y, invN b = y := ⟨_, rfl⟩
      have hx1 : (x : Int) ≤ 4294967296 := by have := invN_le a; omega
      have hy1 : (65536 : Int) ≤ (y : Int) := by have := inv_low b HB.out; omega
      have hy2 : (y : Int) ≤ 4294967296 := by have := invN_le b; omega
      have hyx : (y : Int) ≤ (x : Int) := by have := invN_anti HAB; omega
      have HX := Shut.mk hx
      have HY := Shut.mk hy
      obtain ⟨m, hme⟩ : ∃ m, a % 1073741824 = m := ⟨_, rfl⟩
      have hm : bits .and .u32 (a : Int) 1073741823 = (m : Int) := by rw [and30 _ HA.out, hme]
      have hm2 : m < 1073741824 := by omega
      have hm3 : IntKind.u32.wrap ((m : Int) * 4) = ((m * 4 : Nat) : Int) := by rw [IntKind.wrap_u32]; omega
      have HM := Shut.mk hm2
      obtain ⟨q, hq⟩ : ∃ q, invN m = q := ⟨_, rfl⟩
      have hq1 : (q : Int) ≤ 4294967296 := by have := invN_le m; omega
      have HQ := Shut.mk hq
      have hz : ((m : Int) == 0) = true := by rw [show m = 0 by omega]; rfl
      obtain ⟨z, hzz⟩ : ∃ z, invN (m * 4) = z := ⟨_, rfl⟩
      have HZ := Shut.mk hzz
      have hz1 : (z : Int) ≤ 4294967296 := by have := invN_le (m * 4); omega
      obtain ⟨T, hT⟩ : ∃ T, nextN t i a = T := ⟨_, rfl⟩
      obtain ⟨U, hU⟩ : ∃ U, nextN t i b = U := ⟨_, rfl⟩
      have k1 : U ≤ T := by rw [← hT, ← hU]; exact next_falls HAB
      have k2 : 1125899906842624 ≤ U := by have h := next_low t i b; rw [ht] at h; rw [← hU]; exact h
      have k3 : T ≤ 1125899906842624 + 1073741824 := by have h := next_high t i a; rw [ht] at h; rw [← hT]; exact h
      have HT := Shut.mk hT
      have HU := Shut.mk hU
      have k4 : T - 1125899906842624 ≤ 1073741824 := by omega
      have k5 : 1125899906842624 ≤ T := by omega
      have k6 : T ≤ 1125899906842624 + 1073741824 := by omega
      have k7 : 0 ≤ U := by omega
      have k8 : U ≤ 1125899906842624 + 1073741824 := by omega
      clear hx hy hme hq hT hU k3 hzz hm2
      try clear ht
      clear ha hb HAB
      go_enter Try.func5, Try.ntmps5
      go_wp2_with (fail)
      refine (first_any _).mono ?_
      rintro e wn ⟨rfl, rfl⟩
      go_wp2_with (fail)
      refine (inv_any a _ HA.out).mono ?_
      rintro e wn ⟨rfl, rfl⟩
      rw [HX.out]
      go_wp2_with (fail)
      refine (inv_any b _ HB.out).mono ?_
      rintro e wn ⟨rfl, rfl⟩
      rw [HY.out]
      go_wp2_with (fail)
      refine (inv_any m _ (by first | decide | (have := HM.out; omega))).mono ?_
      rintro e wn ⟨rfl, rfl⟩
      rw [HQ.out]
      go_wp2_with (fail)
      refine (inv_any (m * 4) _ (by first | decide | (have := HM.out; omega))).mono ?_
      rintro e wn ⟨rfl, rfl⟩
      rw [HZ.out]
      go_wp2_with (fail)
      refine (next_any t i a _ HA.out).mono ?_
      rintro e wn ⟨rfl, rfl⟩
      rw [HT.out]
      go_wp2_with (fail)
      refine (next_any t i b _ HB.out).mono ?_
      rintro e wn ⟨rfl, rfl⟩
      rw [HU.out]
      go_wp2
      go_ret
      exact ⟨rfl, Grown.refl _⟩
    · have HAB : (a : Nat) ≤ b := by omega
      have HA := Shut.mk (show (a : Nat) < 4294967296 by omega)
      have HB := Shut.mk (show (b : Nat) < 4294967296 by omega)
      obtain ⟨x, hx⟩ : ∃ x, invN a = x := ⟨_, rfl⟩
      obtain ⟨y, hy⟩ : ∃ y, invN b = y := ⟨_, rfl⟩
      have hx1 : (x : Int) ≤ 4294967296 := by have := invN_le a; omega
      have hy1 : (65536 : Int) ≤ (y : Int) := by have := inv_low b HB.out; omega
      have hy2 : (y : Int) ≤ 4294967296 := by have := invN_le b; omega
      have hyx : (y : Int) ≤ (x : Int) := by have := invN_anti HAB; omega
      have HX := Shut.mk hx
      have HY := Shut.mk hy
      obtain ⟨m, hme⟩ : ∃ m, a % 1073741824 = m := ⟨_, rfl⟩
      have hm : bits .and .u32 (a : Int) 1073741823 = (m : Int) := by rw [and30 _ HA.out, hme]
      have hm2 : m < 1073741824 := by omega
      have hm3 : IntKind.u32.wrap ((m : Int) * 4) = ((m * 4 : Nat) : Int) := by rw [IntKind.wrap_u32]; omega
      have HM := Shut.mk hm2
      obtain ⟨q, hq⟩ : ∃ q, invN m = q := ⟨_, rfl⟩
      have hq1 : (q : Int) ≤ 4294967296 := by have := invN_le m; omega
      have HQ := Shut.mk hq
      have hz : ((m : Int) == 0) = false := by simp; omega
      obtain ⟨z, hzz⟩ := Int.eq_ofNat_of_zero_le (show 0 ≤ (q : Int) / 2 by omega)
      have HZ := Shut.mk (inv_half (m := m) (Z := (m * 4)) (by omega) hq hzz rfl)
      have hz1 : (z : Int) ≤ 4294967296 := by omega
      obtain ⟨T, hT⟩ : ∃ T, nextN t i a = T := ⟨_, rfl⟩
      obtain ⟨U, hU⟩ : ∃ U, nextN t i b = U := ⟨_, rfl⟩
      have k1 : U ≤ T := by rw [← hT, ← hU]; exact next_falls HAB
      have k2 : 1125899906842624 ≤ U := by have h := next_low t i b; rw [ht] at h; rw [← hU]; exact h
      have k3 : T ≤ 1125899906842624 + 1073741824 := by have h := next_high t i a; rw [ht] at h; rw [← hT]; exact h
      have HT := Shut.mk hT
      have HU := Shut.mk hU
      have k4 : T - 1125899906842624 ≤ 1073741824 := by omega
      have k5 : 1125899906842624 ≤ T := by omega
      have k6 : T ≤ 1125899906842624 + 1073741824 := by omega
      have k7 : 0 ≤ U := by omega
      have k8 : U ≤ 1125899906842624 + 1073741824 := by omega
      clear hx hy hme hq hT hU k3 hm2
      try clear ht
      clear ha hb HAB
      go_enter Try.func5, Try.ntmps5
      go_wp2_with (fail)
      refine (first_any _).mono ?_
      rintro e wn ⟨rfl, rfl⟩
      go_wp2_with (fail)
      refine (inv_any a _ HA.out).mono ?_
      rintro e wn ⟨rfl, rfl⟩
      rw [HX.out]
      go_wp2_with (fail)
      refine (inv_any b _ HB.out).mono ?_
      rintro e wn ⟨rfl, rfl⟩
      rw [HY.out]
      go_wp2_with (fail)
      refine (inv_any m _ (by first | decide | (have := HM.out; omega))).mono ?_
      rintro e wn ⟨rfl, rfl⟩
      rw [HQ.out]
      go_wp2_with (fail)
      refine (inv_any (m * 4) _ (by first | decide | (have := HM.out; omega))).mono ?_
      rintro e wn ⟨rfl, rfl⟩
      rw [HZ.out]
      go_wp2_with (fail)
      refine (next_any t i a _ HA.out).mono ?_
      rintro e wn ⟨rfl, rfl⟩
      rw [HT.out]
      go_wp2_with (fail)
      refine (next_any t i b _ HB.out).mono ?_
      rintro e wn ⟨rfl, rfl⟩
      rw [HU.out]
      go_wp2
      go_ret
      exact ⟨rfl, Grown.refl _⟩
  · obtain ⟨h0, h1'⟩ := h
    have hc : (b : Int) < (a : Int) := by omega
    have hb1 : ((b : Int) == 0) = false := by simp; omega
    have hb2 : ¬ (a : Int) < 1 := by omega
    rcases (by omega : b % 1073741824 = 0 ∨ 0 < b % 1073741824) with hm0 | hm0
    · have HAB : (b : Nat) ≤ a := by omega
      have HA := Shut.mk (show (b : Nat) < 4294967296 by omega)
      have HB := Shut.mk (show (a : Nat) < 4294967296 by omega)
      obtain ⟨x, hx⟩ : ∃ x, invN b = x := ⟨_, rfl⟩
      obtain ⟨y, hy⟩ : ∃ y, invN a = y := ⟨_, rfl⟩
      have hx1 : (x : Int) ≤ 4294967296 := by have := invN_le b; omega
      have hy1 : (65536 : Int) ≤ (y : Int) := by have := inv_low a HB.out; omega
      have hy2 : (y : Int) ≤ 4294967296 := by have := invN_le a; omega
      have hyx : (y : Int) ≤ (x : Int) := by have := invN_anti HAB; omega
      have HX := Shut.mk hx
      have HY := Shut.mk hy
      obtain ⟨m, hme⟩ : ∃ m, b % 1073741824 = m := ⟨_, rfl⟩
      have hm : bits .and .u32 (b : Int) 1073741823 = (m : Int) := by rw [and30 _ HA.out, hme]
      have hm2 : m < 1073741824 := by omega
      have hm3 : IntKind.u32.wrap ((m : Int) * 4) = ((m * 4 : Nat) : Int) := by rw [IntKind.wrap_u32]; omega
      have HM := Shut.mk hm2
      obtain ⟨q, hq⟩ : ∃ q, invN m = q := ⟨_, rfl⟩
      have hq1 : (q : Int) ≤ 4294967296 := by have := invN_le m; omega
      have HQ := Shut.mk hq
      have hz : ((m : Int) == 0) = true := by rw [show m = 0 by omega]; rfl
      obtain ⟨z, hzz⟩ : ∃ z, invN (m * 4) = z := ⟨_, rfl⟩
      have HZ := Shut.mk hzz
      have hz1 : (z : Int) ≤ 4294967296 := by have := invN_le (m * 4); omega
      obtain ⟨T, hT⟩ : ∃ T, nextN t i b = T := ⟨_, rfl⟩
      obtain ⟨U, hU⟩ : ∃ U, nextN t i a = U := ⟨_, rfl⟩
      have k1 : U ≤ T := by rw [← hT, ← hU]; exact next_falls HAB
      have k2 : 1125899906842624 ≤ U := by have h := next_low t i a; rw [ht] at h; rw [← hU]; exact h
      have k3 : T ≤ 1125899906842624 + 1073741824 := by have h := next_high t i b; rw [ht] at h; rw [← hT]; exact h
      have HT := Shut.mk hT
      have HU := Shut.mk hU
      have k4 : T - 1125899906842624 ≤ 1073741824 := by omega
      have k5 : 1125899906842624 ≤ T := by omega
      have k6 : T ≤ 1125899906842624 + 1073741824 := by omega
      have k7 : 0 ≤ U := by omega
      have k8 : U ≤ 1125899906842624 + 1073741824 := by omega
      clear hx hy hme hq hT hU k3 hzz hm2
      try clear ht
      clear ha hb HAB
      go_enter Try.func5, Try.ntmps5
      go_wp2_with (fail)
      refine (first_any _).mono ?_
      rintro e wn ⟨rfl, rfl⟩
      go_wp2_with (fail)
      refine (inv_any b _ HA.out).mono ?_
      rintro e wn ⟨rfl, rfl⟩
      rw [HX.out]
      go_wp2_with (fail)
      refine (inv_any a _ HB.out).mono ?_
      rintro e wn ⟨rfl, rfl⟩
      rw [HY.out]
      go_wp2_with (fail)
      refine (inv_any m _ (by first | decide | (have := HM.out; omega))).mono ?_
      rintro e wn ⟨rfl, rfl⟩
      rw [HQ.out]
      go_wp2_with (fail)
      refine (inv_any (m * 4) _ (by first | decide | (have := HM.out; omega))).mono ?_
      rintro e wn ⟨rfl, rfl⟩
      rw [HZ.out]
      go_wp2_with (fail)
      refine (next_any t i b _ HA.out).mono ?_
      rintro e wn ⟨rfl, rfl⟩
      rw [HT.out]
      go_wp2_with (fail)
      refine (next_any t i a _ HB.out).mono ?_
      rintro e wn ⟨rfl, rfl⟩
      rw [HU.out]
      go_wp2
      go_ret
      exact ⟨rfl, Grown.refl _⟩
    · have HAB : (b : Nat) ≤ a := by omega
      have HA := Shut.mk (show (b : Nat) < 4294967296 by omega)
      have HB := Shut.mk (show (a : Nat) < 4294967296 by omega)
      obtain ⟨x, hx⟩ : ∃ x, invN b = x := ⟨_, rfl⟩
      obtain ⟨y, hy⟩ : ∃ y, invN a = y := ⟨_, rfl⟩
      have hx1 : (x : Int) ≤ 4294967296 := by have := invN_le b; omega
      have hy1 : (65536 : Int) ≤ (y : Int) := by have := inv_low a HB.out; omega
      have hy2 : (y : Int) ≤ 4294967296 := by have := invN_le a; omega
      have hyx : (y : Int) ≤ (x : Int) := by have := invN_anti HAB; omega
      have HX := Shut.mk hx
      have HY := Shut.mk hy
      obtain ⟨m, hme⟩ : ∃ m, b % 1073741824 = m := ⟨_, rfl⟩
      have hm : bits .and .u32 (b : Int) 1073741823 = (m : Int) := by rw [and30 _ HA.out, hme]
      have hm2 : m < 1073741824 := by omega
      have hm3 : IntKind.u32.wrap ((m : Int) * 4) = ((m * 4 : Nat) : Int) := by rw [IntKind.wrap_u32]; omega
      have HM := Shut.mk hm2
      obtain ⟨q, hq⟩ : ∃ q, invN m = q := ⟨_, rfl⟩
      have hq1 : (q : Int) ≤ 4294967296 := by have := invN_le m; omega
      have HQ := Shut.mk hq
      have hz : ((m : Int) == 0) = false := by simp; omega
      obtain ⟨z, hzz⟩ := Int.eq_ofNat_of_zero_le (show 0 ≤ (q : Int) / 2 by omega)
      have HZ := Shut.mk (inv_half (m := m) (Z := (m * 4)) (by omega) hq hzz rfl)
      have hz1 : (z : Int) ≤ 4294967296 := by omega
      obtain ⟨T, hT⟩ : ∃ T, nextN t i b = T := ⟨_, rfl⟩
      obtain ⟨U, hU⟩ : ∃ U, nextN t i a = U := ⟨_, rfl⟩
      have k1 : U ≤ T := by rw [← hT, ← hU]; exact next_falls HAB
      have k2 : 1125899906842624 ≤ U := by have h := next_low t i a; rw [ht] at h; rw [← hU]; exact h
      have k3 : T ≤ 1125899906842624 + 1073741824 := by have h := next_high t i b; rw [ht] at h; rw [← hT]; exact h
      have HT := Shut.mk hT
      have HU := Shut.mk hU
      have k4 : T - 1125899906842624 ≤ 1073741824 := by omega
      have k5 : 1125899906842624 ≤ T := by omega
      have k6 : T ≤ 1125899906842624 + 1073741824 := by omega
      have k7 : 0 ≤ U := by omega
      have k8 : U ≤ 1125899906842624 + 1073741824 := by omega
      clear hx hy hme hq hT hU k3 hm2
      try clear ht
      clear ha hb HAB
      go_enter Try.func5, Try.ntmps5
      go_wp2_with (fail)
      refine (first_any _).mono ?_
      rintro e wn ⟨rfl, rfl⟩
      go_wp2_with (fail)
      refine (inv_any b _ HA.out).mono ?_
      rintro e wn ⟨rfl, rfl⟩
      rw [HX.out]
      go_wp2_with (fail)
      refine (inv_any a _ HB.out).mono ?_
      rintro e wn ⟨rfl, rfl⟩
      rw [HY.out]
      go_wp2_with (fail)
      refine (inv_any m _ (by first | decide | (have := HM.out; omega))).mono ?_
      rintro e wn ⟨rfl, rfl⟩
      rw [HQ.out]
      go_wp2_with (fail)
      refine (inv_any (m * 4) _ (by first | decide | (have := HM.out; omega))).mono ?_
      rintro e wn ⟨rfl, rfl⟩
      rw [HZ.out]
      go_wp2_with (fail)
      refine (next_any t i b _ HA.out).mono ?_
      rintro e wn ⟨rfl, rfl⟩
      rw [HT.out]
      go_wp2_with (fail)
      refine (next_any t i a _ HB.out).mono ?_
      rintro e wn ⟨rfl, rfl⟩
      rw [HU.out]
      go_wp2
      go_ret
      exact ⟨rfl, Grown.refl _⟩

/-! ### THE WALK -/
set_option maxRecDepth 100000 in
set_option maxHeartbeats 4000000 in
theorem walk (a0 : Int) (a1 : Int) (a2 : Int) (a3 : Int) (w0 : (Lit.int .u32 a0).wf = true) (w1 : (Lit.int .u32 a1).wf = true) (w2 : (Lit.int .i64 a2).wf = true) (w3 : (Lit.int .i64 a3).wf = true) (w : World) :
    Calls Try.prog 5 #[.int .u32 a0, .int .u32 a1, .int .i64 a2, .int .i64 a3] w fun e w' => e = .returned (.bool true) ∧ Grown w w' := by
  obtain ⟨a, rfl⟩ := Int.eq_ofNat_of_zero_le (wf_u32 w0).1
  obtain ⟨b, rfl⟩ := Int.eq_ofNat_of_zero_le (wf_u32 w1).1
  have ha : a < 4294967296 := by have := (wf_u32 w0).2; omega
  have hb : b < 4294967296 := by have := (wf_u32 w1).2; omega
  clear w0 w1 w2 w3
  generalize a2 = t
  generalize a3 = i
  rcases (by omega : t < 0 ∨ (0 ≤ t ∧ t ≤ 1125899906842624) ∨ 1125899906842624 < t) with hx | hx | hx
  · exact walk_0 t i a b w ha hb hx
  · exact walk_1 t i a b w ha hb hx
  · exact walk_2 t i a b w ha hb hx

/-! ### THE ROW -/
set_option maxRecDepth 100000 in
theorem lifted (os : Os) (started : os.Started) (H : Type) (enc : TypeId × Value → H) :
    ReturnsInHanded {} Try.checked os 5 .any (Rows.invFallsSpec.pre6 enc Try.prog Try.f5 Rows.invFallsRow.domain false) (Rows.invFallsSpec.post enc Try.prog Try.f5 false true false false) := by
  refine returnsInHanded_of_change (C := Try.checked) own started (by kernel_rfl) Try.func5
    (ChangeSpec.witness6 (enc := enc) (C := Try.checked) false ⟨#[], #[.int .u32 0, .int .u32 0, .int .i64 0, .int .i64 0], []⟩ 8 (by kernel_rfl) (by kernel_rfl) (by kernel_rfl) (by kernel_rfl)) ?_
  intro W base args ds gs before hval0 hW hcnd _
  have hval : ∀ (j : Nat) t v, Try.f5.params[j]? = some t → args[j]? = some v → Value.okWide Try.prog W .any base t v := hval0
  have hW' := hW
  obtain ⟨p, q, hA0, hV, rfl, hfz, hnd⟩ := hW
  have hA : DataW.TrodAll enc Try.prog W 0 (fun _ => true) true Try.f5.params.toList args.toList ds p := hA0
  rw [Try.params5] at hA hval
  obtain ⟨v0, vs0, d0, ds0, p0, q0, hargs, rfl, rfl, h0, r0⟩ := trodAll_cons hA
  obtain ⟨v1, vs1, d1, ds1, p1, q1, rfl, rfl, rfl, h1, r1⟩ := trodAll_cons r0
  obtain ⟨v2, vs2, d2, ds2, p2, q2, rfl, rfl, rfl, h2, r2⟩ := trodAll_cons r1
  obtain ⟨v3, vs3, d3, ds3, p3, q3, rfl, rfl, rfl, h3, r3⟩ := trodAll_cons r2
  obtain ⟨rfl, rfl, rfl⟩ := trodAll_nil r3
  obtain rfl : args = #[v0, v1, v2, v3] := by cases args; simp_all
  obtain ⟨rfl, rfl⟩ := trodVars_none hV
  obtain ⟨a0, rfl, rfl, rfl, w0⟩ := open_int Try.underlying23 (hval 0 23 v0 rfl rfl) h0
  obtain ⟨a1, rfl, rfl, rfl, w1⟩ := open_int Try.underlying23 (hval 1 23 v1 rfl rfl) h1
  obtain ⟨a2, rfl, rfl, rfl, w2⟩ := open_int Try.underlying2 (hval 2 2 v2 rfl rfl) h2
  obtain ⟨a3, rfl, rfl, rfl, w3⟩ := open_int Try.underlying2 (hval 3 2 v3 rfl rfl) h3
  clear hA0 hval0
  simp only [List.append_nil] at hW'
  refine (walk a0 a1 a2 a3 w0 w1 w2 w3 W).mono fun e W' ⟨he, hg⟩ => ?_
  subst he
  exact ⟨_, rfl, post_of_same (pa := []) (pv := []) hW' (fun _ _ _ => (trodAll_cons_mk (shut_bool Try.underlying4 _) trodAll_mk0)) (fun sp _ => (trodAll_cons_mk (shut_int Try.underlying23 w0) (trodAll_cons_mk (shut_int Try.underlying23 w1) (trodAll_cons_mk (shut_int Try.underlying2 w2) (trodAll_cons_mk (shut_int Try.underlying2 w3) trodAll_mk0))))) (fun _ _ => rfl) rfl
    (hg.frame _) hg.2.1 (ok_one (by kernel_rfl) rfl (okWide_bool_mk Try.underlying4 _))⟩

theorem over : Rows.invFallsRow.holds Try.pinned (OpenSpec.ofChange Rows.invFallsSpec) :=
  OpenClaim.holds_of_wide 5 Try.f5 rfl rfl rfl rfl rfl rfl rfl ⟨rfl, rfl, rfl, rfl, rfl⟩ rfl rfl rfl rfl rfl (by kernel_rfl) Try.func5 (by kernel_rfl)
    (of_decide_eq_true (by kernel_rfl)) (by unfold Func.isWrapper; first | (rw [if_pos (by decide +kernel)]; kernel_rfl) | (rw [if_neg (by decide +kernel)]; exact ⟨rfl, rfl⟩))
    (fun os started H enc _ => lifted os started H enc)

theorem proved : Rows.InvFallsSaid :=
  over
#print axioms proved
end Go.Proofs.Ytebeclebpabkaaa.invFalls
