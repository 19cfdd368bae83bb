/-
  FOR FqPlays: the law's light.
-/
import Derived.Test.YtlkoleannlpflaaFqPb
import Derived.Test.YtlkoleannlpflaaOpenQ
namespace Go.Proofs.Ytlkoleannlpflaa
open Go.ChangeShapes Go.WideShapes Go.ChangeAt Go.RowKit Go.Deep
set_option linter.unusedVariables false
set_option linter.unusedSimpArgs false

/-- few things, each short. -/
def LightQ (l : List Dop) : Prop := l.length ≤ 80 ∧ ∀ k, k < l.length → (l.getD k do00.1).p.body.length ≤ 200
def LightE (l : List Dop) (e : Ending) : Prop := ∃ b, e = .returned (.bool b) ∧ (b = true → LightQ l)
set_option maxRecDepth 100000 in
set_option maxHeartbeats 8000000 in
theorem light_any (T : Nat → Prop) (A : Option Addr) (cp : Nat) (l : List Dop) (w : World) (h : RowDo T w A l.length l) (hl : l.length ≤ maxLen) :
    Calls Try.prog 5 #[.slice A l.length cp, .int .i64 80] w fun e w' => LightE l e ∧ w = w' := by
  have HR := Shut.mk h
  unfold maxLen at hl
  clear h
  obtain ⟨n, hn⟩ : ∃ n, n = l.length := ⟨_, rfl⟩
  rw [← hn] at hl HR ⊢
  have HN := Shut.mk hn
  clear hn
  go_enter Try.func5, Try.ntmps5
  by_cases h8 : 80 < n
  · have e0 : decide ((80 : Int) < (n : Int)) = true := by simp; omega
    have e1 : decide (80 < n) = true := by simpa using h8
    clear h8
    go_wp2_with (fail)
    go_ret
    exact ⟨⟨false, rfl, fun h => by cases h⟩, rfl⟩
  have HN8 := Shut.mk (show n ≤ 80 by omega)
  have e0 : decide ((80 : Int) < (n : Int)) = false := by simp; omega
  have e1 : decide (80 < n) = false := by simpa using h8
  clear h8
  go_wp2_with (fail)
  clear e0 e1
  go_loop [5] (fun i => ∃ k : Nat, k ≤ n ∧ i = .int .i64 (k : Int) ∧ ∀ j, j < k → (l.getD j do00.1).p.body.length ≤ 200) (fun i => n - (intOf i).toNat)
  case atStart => exact ⟨0, Nat.zero_le _, rfl, fun j hj => absurd hj (Nat.not_lt_zero _)⟩
  case round =>
    obtain ⟨k, hk, rfl, hall⟩ := hrel
    have HA := Shut.mk hall
    clear hall
    by_cases hlt : k < n
    · have f0 : decide ((k : Int) < (n : Int)) = true := by simp; omega
      have f1 : decide (k < n) = true := by simpa using hlt
      have hki : (k : Int) < (n : Int) := by omega
      obtain ⟨b, off, aa, mm, cc, rfl, hrg, hrb, -, -⟩ := RowK.el HR.out k hlt
      have c6 := hrg 6 _ rfl
      have c5 := hrg 5 _ rfl
      have HNX := Shut.mk (show mm ≤ 200 → ∀ j, j < k + 1 → (l.getD j do00.1).p.body.length ≤ 200 from fun h j hj => by
        rcases Nat.lt_or_ge j k with h1 | h1
        · exact HA.out j h1
        · rw [show j = k by omega]
          have h2 : (l.getD k do00.1).p.body.length = mm := hrb.len
          omega)
      have hmle := hrb.le
      unfold maxLen at hmle
      generalize l.getD k do00.1 = d at *
      clear hrg hrb
      obtain ⟨dk, dn, pi, pf, pt, pa, pb⟩ := d
      dsimp only at c5 c6
      by_cases h2 : 200 < mm
      · have g0 : decide ((200 : Int) < (mm : Int)) = true := by simp; omega
        have g1 : decide (200 < mm) = true := by simpa using h2
        clear h2
        go_wp2_with (fail)
        go_ret
        exact ⟨⟨false, rfl, fun h => by cases h⟩, rfl⟩
      have g0 : decide ((200 : Int) < (mm : Int)) = false := by simp; omega
      have g1 : decide (200 < mm) = false := by simpa using h2
      have HNY := Shut.mk (HNX.out (by omega))
      clear h2
      cases d1 : decide (pa < 0)
      rotate_left
      · go_wp2_with (fail)
        go_ret
        exact ⟨⟨false, rfl, fun h => by cases h⟩, rfl⟩
      cases d2 : decide (1099511627776 < pa)
      rotate_left
      · go_wp2_with (fail)
        go_ret
        exact ⟨⟨false, rfl, fun h => by cases h⟩, rfl⟩
      go_wp2_with (fail)
      go_round
      case rel => exact ⟨k + 1, by omega, by go_num, HNY.out⟩
      case measure => simp [intOf]; omega
    · have hk' : k = n := by omega
      subst hk'
      have f0 : decide ((k : Int) < (k : Int)) = false := by simp
      have f1 : decide (k < k) = false := by simp
      have HLQ := Shut.mk (show LightQ l from ⟨by rw [← HN.out]; exact HN8.out, fun j hj => HA.out j (by rw [HN.out]; exact hj)⟩)
      clear HN
      go_wp2_with (fail)
      go_ret
      exact ⟨⟨true, rfl, fun _ => HLQ.out⟩, rfl⟩
end Go.Proofs.Ytlkoleannlpflaa
