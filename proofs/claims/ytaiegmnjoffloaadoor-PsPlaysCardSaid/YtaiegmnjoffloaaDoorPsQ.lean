/-
  MATHS: one station alone, told by its own sleep.
-/
import Derived.Test.YtaiegmnjoffloaaDoorPsL
namespace Go.Proofs.YtaiegmnjoffloaaDoor
open Go.ChangeShapes Go.WideShapes Go.ChangeAt Go.RowKit Go.Deep
set_option linter.unusedVariables false
set_option linter.unusedSimpArgs false

/-- one station alone. -/
def at1 (k : Nat) (p : Nap) : Nat → Nap := updF X0 k p
theorem at1_is (k : Nat) (p : Nap) : at1 k p k = p := updF_same _ _ _
theorem at1_two (k : Nat) (p q : Nap) : updF (at1 k p) k q = at1 k q := updF_two _ _ _ _
section
variable {k : Nat} {p : Nap}
theorem aid_in (h1 : 1 ≤ k) (h2 : k ≤ 16) : aidP (k : Int) = true := by unfold aidP; simp; omega
theorem ac_in {c : Nat} (h : c < 4) : acP (c : Int) = true := by unfold acP; simp; omega
theorem th_at (h1 : 1 ≤ k) (h2 : k ≤ 16) : thP (at1 k p) (k : Int) = p.there := by unfold thP; rw [aid_in h1 h2, Int.toNat_natCast, at1_is, Bool.true_and]
theorem add_at (h1 : 1 ≤ k) (h2 : k ≤ 16) (u : Nat → Bool) {m : Nat} (hm : m ≤ 8) : addP X0 (k : Int) u (m : Int) = (at1 k (addN u m), 0) := by
  unfold addP
  rw [if_pos ⟨aid_in h1 h2, by unfold mostP; simp; omega⟩, Int.toNat_natCast, Int.toNat_natCast, if_neg (by simp [X0, nap0])]
  rfl
theorem poll_at (h1 : 1 ≤ k) (h2 : k ≤ 16) (ht : p.there = true) : pollP (at1 k p) (k : Int) = (at1 k (pollN p).1, (pollN p).2) := by
  unfold pollP
  rw [if_pos ((th_at h1 h2).trans ht), Int.toNat_natCast, at1_is, at1_two]
theorem doze_at (h1 : 1 ≤ k) (h2 : k ≤ 16) (ht : p.there = true) (on : Bool) : dozeP (at1 k p) (k : Int) on = (at1 k (dozeN p on), 0) := by
  unfold dozeP
  rw [if_pos ((th_at h1 h2).trans ht), Int.toNat_natCast, at1_is, at1_two]
theorem close_at (h1 : 1 ≤ k) (h2 : k ≤ 16) (ht : p.there = true) : closeP (at1 k p) (k : Int) = (at1 k (closeN p).1, (closeN p).2) := by
  unfold closeP
  rw [if_pos ((th_at h1 h2).trans ht), Int.toNat_natCast, at1_is, at1_two]
theorem trig_at (h1 : 1 ≤ k) (h2 : k ≤ 16) (ht : p.there = true) {c : Nat} (hc : c < 4) : trigP (at1 k p) (k : Int) (c : Int) = (at1 k (trigN p c).1, (trigN p c).2) := by
  unfold trigP
  rw [if_pos ((th_at h1 h2).trans ht), if_pos (ac_in hc), Int.toNat_natCast, Int.toNat_natCast, at1_is, at1_two]
theorem may_at (h1 : 1 ≤ k) (h2 : k ≤ 16) (ht : p.there = true) {c : Nat} (hc : c < 4) : mayP (at1 k p) (k : Int) (c : Int) = mayN p c := by
  unfold mayP
  rw [th_at h1 h2, ht, ac_in hc, Int.toNat_natCast, Int.toNat_natCast, at1_is, Bool.true_and, Bool.true_and]
theorem ask_at (h1 : 1 ≤ k) (h2 : k ≤ 16) (ht : p.there = true) : askP (at1 k p) (k : Int) = p.asked := by
  unfold askP
  rw [th_at h1 h2, ht, Int.toNat_natCast, at1_is, Bool.true_and]
theorem sent_at1 (h1 : 1 ≤ k) (h2 : k ≤ 16) (ht : p.there = true) {c : Nat} (hc : c < 4) (hm : mayN p c = true) (more : Bool) : sentP (at1 k p) (k : Int) (c : Int) more = (at1 k (sentN p more).1, (sentN p more).2, 0) := by
  unfold sentP
  rw [if_pos ((th_at h1 h2).trans ht), if_pos (ac_in hc), Int.toNat_natCast, Int.toNat_natCast, at1_is, if_pos hm, at1_two]
theorem sent_no (h1 : 1 ≤ k) (h2 : k ≤ 16) (ht : p.there = true) {c : Nat} (hc : c < 4) (hm : mayN p c = false) (more : Bool) : sentP (at1 k p) (k : Int) (c : Int) more = (at1 k p, false, 110) := by
  unfold sentP
  rw [if_pos ((th_at h1 h2).trans ht), if_pos (ac_in hc), Int.toNat_natCast, Int.toNat_natCast, at1_is, if_neg (by rw [hm]; simp)]
end
end Go.Proofs.YtaiegmnjoffloaaDoor
