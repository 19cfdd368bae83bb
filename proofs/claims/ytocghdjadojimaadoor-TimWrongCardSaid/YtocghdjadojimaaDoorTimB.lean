/-
  CONTRACTS: tim.part, tim.frame; what the beginning of bytes says.
-/
import Derived.Test.YtocghdjadojimaaDoorTimA
namespace Go.Proofs.YtocghdjadojimaaDoor
open Go.ChangeShapes Go.WideShapes Go.ChangeAt Go.RowKit
set_option linter.unusedVariables false
set_option linter.unusedSimpArgs false

theorem fstB_is (x : Int) (h0 : 0 ≤ x) : x / 8 - x / 8 % 2 = x / 16 * 2 := by omega
theorem ret_2 {k : IntKind} {a b c d : Int} (h1 : b = a) (h2 : d = c) : Ending.returned (.tuple #[.int k a, .int k c]) = .returned (.tuple #[.int k b, .int k d]) := by rw [h1, h2]
set_option maxRecDepth 100000 in
set_option maxHeartbeats 8000000 in
theorem part_any (A : Option Addr) (n c : Nat) (l : List Int) (w : World) (h : RowB .i64 w A n l) (hr : rises 0 l = true) :
    Calls Tryd.prog 20 #[.slice A n c] w fun e w' => e = .returned (.tuple #[.int .i64 (fstB l), .int .i64 (lstB l)]) ∧ ∃ m, w' = w.drewN m := by
  have hl := h.len
  have hle := h.le
  unfold maxLen at hle
  rcases Nat.eq_zero_or_pos n with h0 | hp
  · subst h0
    obtain rfl : l = [] := List.eq_nil_of_length_eq_zero hl
    clear h hl
    have H1 := Lib.hid (show fstB [] = 0 by decide)
    have H2 := Lib.hid (show lstB [] = 0 by decide)
    go_enter Tryd.func20, Tryd.ntmps20
    go_wp2
    go_ret2
    exact ⟨ret_2 H1.out H2.out, 0, rfl⟩
  · obtain ⟨b, off, rfl, hc⟩ := h.cells hp
    have c0 := hc 0 hp
    rw [Nat.add_zero] at c0
    have c1 := hc (n - 1) (by omega)
    obtain ⟨y0, y1, y2⟩ := ends_le hr
    have H1 := Lib.hid (show fstB l = l.getD 0 0 / 16 * 2 from rfl)
    have H2 := Lib.hid (show lstB l = l.getD (n - 1) 0 / 8 by rw [← hl]; rfl)
    rw [hl] at y1 y2
    generalize l.getD 0 0 = x at *
    generalize l.getD (n - 1) 0 = y at *
    have hne : ((n : Int) == 0) = false := by simp; omega
    have b0 : (0 : Int) < (n : Int) := by omega
    have b1 : (0 : Int) ≤ (n : Int) - 1 := by omega
    have b2 : (n : Int) - 1 < (n : Int) := by omega
    have b3 : ((n : Int) - 1).toNat = n - 1 := by omega
    have q1 : IntKind.i64.wrap (x.tdiv 8) = x / 8 := by rw [Int.tdiv_eq_ediv_of_nonneg (by omega)]; exact IntWalk.i64_in _ ⟨by omega, by omega⟩
    have q2 : IntKind.i64.wrap (y.tdiv 8) = y / 8 := by rw [Int.tdiv_eq_ediv_of_nonneg (by omega)]; exact IntWalk.i64_in _ ⟨by omega, by omega⟩
    have HS := Lib.hid (fstB_is x y0)
    clear h hl hr hc
    go_enter Tryd.func20, Tryd.ntmps20
    go_wp2
    go_quiet (fail)
    go_wp2
    go_ret2
    exact ⟨ret_2 (H1.out.trans HS.out.symm) H2.out, _, rfl⟩

/-- what the kind and the lengths say; 0: nothing amiss. -/
def frmT (xs : List Int) (n : Nat) : Nat := if n < 2 then 101 else if xs.getD 0 0 ≠ 5 then 105 else if (n : Int) - 2 < xs.getD 1 0 then 101 else if xs.getD 1 0 < (n : Int) - 2 ∨ xs.getD 1 0 < 4 then 102 else 0
theorem frmT_4 (xs : List Int) (n : Nat) : frmT xs n = 0 ∨ frmT xs n ∈ S4 := by
  unfold frmT
  repeat' split
  all_goals first | exact .inl rfl | exact .inr (by decide)
theorem frmT_fine {xs : List Int} {n : Nat} (h : frmT xs n = 0) : 2 ≤ n ∧ xs.getD 0 0 = 5 ∧ xs.getD 1 0 = (n : Int) - 2 ∧ 4 ≤ xs.getD 1 0 := by
  unfold frmT at h
  by_cases h1 : n < 2
  · rw [if_pos h1] at h; cases h
  rw [if_neg h1] at h
  by_cases h2 : xs.getD 0 0 ≠ 5
  · rw [if_pos h2] at h; cases h
  rw [if_neg h2] at h
  by_cases h3 : (n : Int) - 2 < xs.getD 1 0
  · rw [if_pos h3] at h; cases h
  rw [if_neg h3] at h
  by_cases h4 : xs.getD 1 0 < (n : Int) - 2 ∨ xs.getD 1 0 < 4
  · rw [if_pos h4] at h; cases h
  simp only [not_or, Decidable.not_not] at h2 h4
  exact ⟨by omega, h2, by omega, by omega⟩
theorem frmT_is {xs : List Int} {n : Nat} (h1 : 2 ≤ n) (h2 : xs.getD 0 0 = 5) (h3 : xs.getD 1 0 = (n : Int) - 2) (h4 : 4 ≤ xs.getD 1 0) : frmT xs n = 0 := by
  unfold frmT
  rw [if_neg (by omega), if_neg (by simp only [Decidable.not_not]; exact h2), if_neg (by omega), if_neg (by omega)]

set_option maxRecDepth 100000 in
set_option maxHeartbeats 8000000 in
theorem frame_any (A : Option Addr) (n c : Nat) (xs : List Int) (E : Nat → Addr) (w : World) (h : RowB .u8 w A n xs) (hS : Sent w E S4) :
    Calls Tryd.prog 23 #[.slice A n c] w fun e w' => e = .returned (errV E (frmT xs n)) ∧ w = w' := by
  have h101 := hS.at_ 101 (by decide)
  have h102 := hS.at_ 102 (by decide)
  have h105 := hS.at_ 105 (by decide)
  simp only [gOf] at h101 h102 h105
  have hle := h.le
  unfold maxLen at hle
  have HE := Lib.hid (show errV E (frmT xs n) = if n < 2 then errP (E 101) else if xs.getD 0 0 ≠ 5 then errP (E 105) else if (n : Int) - 2 < xs.getD 1 0 then errP (E 101) else if xs.getD 1 0 < (n : Int) - 2 ∨ xs.getD 1 0 < 4 then errP (E 102) else .nilIface by
    unfold frmT
    repeat' split
    all_goals rfl)
  generalize errV E (frmT xs n) = r at *
  generalize E 101 = e1 at *
  generalize E 102 = e2 at *
  generalize E 105 = e5 at *
  clear hS
  by_cases hp : n < 2
  · have hp1 : decide ((n : Int) ≤ 1) = true := by simp; omega
    have hp2 : decide ((n : Int) < 2) = true := by simp; omega
    clear h
    have HV := Lib.hid (show r = errP e1 by rw [HE.out, if_pos hp])
    go_enter Tryd.func23, Tryd.ntmps23
    go_wp2
    go_ret
    exact ⟨ret_vv HV.out, rfl⟩
  have hp1 : decide ((n : Int) ≤ 1) = false := by simp; omega
  have hp2 : decide ((n : Int) < 2) = false := by simp; omega
  obtain ⟨b, off, rfl, hc⟩ := h.cells (by omega)
  have c0 := hc 0 (by omega)
  rw [Nat.add_zero] at c0
  have c1 := hc 1 (by omega)
  have b0 : (0 : Int) < (n : Int) := by omega
  have b1 : (1 : Int) < (n : Int) := by omega
  obtain ⟨v1a, v1b⟩ := h.wf8 1 (by omega)
  have HE1 := Lib.hid (show r = if xs.getD 0 0 ≠ 5 then errP e5 else if (n : Int) - 2 < xs.getD 1 0 then errP e1 else if xs.getD 1 0 < (n : Int) - 2 ∨ xs.getD 1 0 < 4 then errP e2 else .nilIface by rw [HE.out, if_neg hp])
  clear HE hc h hp
  generalize xs.getD 0 0 = v0 at *
  generalize xs.getD 1 0 = v1 at *
  cases e0 : (v0 != 5)
  case true =>
    have HV := Lib.hid (show r = errP e5 by rw [HE1.out, if_pos (by simpa using e0)])
    go_enter Tryd.func23, Tryd.ntmps23
    go_wp2
    go_ret
    exact ⟨ret_vv HV.out, rfl⟩
  have HE2 := Lib.hid (show r = if (n : Int) - 2 < v1 then errP e1 else if v1 < (n : Int) - 2 ∨ v1 < 4 then errP e2 else .nilIface by rw [HE1.out, if_neg (by simpa using e0)])
  clear HE1
  cases d1 : decide ((n : Int) - 2 < v1)
  case true =>
    have HV := Lib.hid (show r = errP e1 by rw [HE2.out, if_pos (of_decide_eq_true d1)])
    go_enter Tryd.func23, Tryd.ntmps23
    go_wp2
    go_ret
    exact ⟨ret_vv HV.out, rfl⟩
  cases d2 : decide (v1 < (n : Int) - 2)
  case true =>
    have HV := Lib.hid (show r = errP e2 by rw [HE2.out, if_neg (of_decide_eq_false d1), if_pos (.inl (of_decide_eq_true d2))])
    go_enter Tryd.func23, Tryd.ntmps23
    go_wp2
    go_ret
    exact ⟨ret_vv HV.out, rfl⟩
  cases d3 : decide (v1 < 4)
  case true =>
    have d3' : decide (v1 ≤ 3) = true := by simp at d3 ⊢; omega
    have HV := Lib.hid (show r = errP e2 by rw [HE2.out, if_neg (of_decide_eq_false d1), if_pos (.inr (of_decide_eq_true d3))])
    go_enter Tryd.func23, Tryd.ntmps23
    go_wp2
    go_ret
    exact ⟨ret_vv HV.out, rfl⟩
  have d3' : decide (v1 ≤ 3) = false := by simp at d3 ⊢; omega
  have HV := Lib.hid (show r = .nilIface by rw [HE2.out, if_neg (of_decide_eq_false d1), if_neg (by have := of_decide_eq_false d2; have := of_decide_eq_false d3; omega)])
  go_enter Tryd.func23, Tryd.ntmps23
  go_wp2
  go_ret
  exact ⟨ret_vv HV.out, rfl⟩
end Go.Proofs.YtocghdjadojimaaDoor
