/-
  MATHS OF ps: all stations' sleep, each call of whatever arguments. No program is named.
-/
import Derived.Test.YtaiegmnjoffloaaDoorPsM
import Derived.Test.YtaiegmnjoffloaaDoorArrF
namespace Go.Proofs.YtaiegmnjoffloaaDoor
open Go.ChangeShapes Go.WideShapes Go.ChangeAt Go.RowKit Go.Deep
set_option linter.unusedVariables false
set_option linter.unusedSimpArgs false

def aidP (a : Int) : Bool := decide (1 ≤ a) && decide (a ≤ 16)
def acP (c : Int) : Bool := decide (0 ≤ c) && decide (c < 4)
def mostP (m : Int) : Bool := decide (0 ≤ m) && decide (m ≤ 8)
theorem aidP_nat {a : Int} (h : aidP a = true) : ∃ k : Nat, a = (k : Int) ∧ 1 ≤ k ∧ k ≤ 16 := by
  unfold aidP at h
  simp only [Bool.and_eq_true, decide_eq_true_eq] at h
  exact ⟨a.toNat, by omega, by omega, by omega⟩
theorem acP_nat {c : Int} (h : acP c = true) : ∃ k : Nat, c = (k : Int) ∧ k < 4 := by
  unfold acP at h
  simp only [Bool.and_eq_true, decide_eq_true_eq] at h
  exact ⟨c.toNat, by omega, by omega⟩
theorem mostP_nat {m : Int} (h : mostP m = true) : ∃ k : Nat, m = (k : Int) ∧ k ≤ 8 := by
  unfold mostP at h
  simp only [Bool.and_eq_true, decide_eq_true_eq] at h
  exact ⟨m.toNat, by omega, by omega⟩
/-- all stations. -/
def thP (X : Nat → Nap) (a : Int) : Bool := aidP a && (X a.toNat).there
def addP (X : Nat → Nap) (a : Int) (u : Nat → Bool) (m : Int) : (Nat → Nap) × Nat := if aidP a = true ∧ mostP m = true then (if (X a.toNat).there = true then (X, 108) else (updF X a.toNat (addN u m.toNat), 0)) else (X, 103)
def delP (X : Nat → Nap) (a : Int) : Nat → Nap := if thP X a = true then updF X a.toNat nap0 else X
def dozeP (X : Nat → Nap) (a : Int) (on : Bool) : (Nat → Nap) × Nat := if thP X a = true then (updF X a.toNat (dozeN (X a.toNat) on), 0) else (X, 107)
def pollP (X : Nat → Nap) (a : Int) : (Nat → Nap) × Nat := if thP X a = true then (updF X a.toNat (pollN (X a.toNat)).1, (pollN (X a.toNat)).2) else (X, 107)
def trigP (X : Nat → Nap) (a c : Int) : (Nat → Nap) × Nat := if thP X a = true then (if acP c = true then (updF X a.toNat (trigN (X a.toNat) c.toNat).1, (trigN (X a.toNat) c.toNat).2) else (X, 103)) else (X, 107)
def mayP (X : Nat → Nap) (a c : Int) : Bool := thP X a && (acP c && mayN (X a.toNat) c.toNat)
def sentP (X : Nat → Nap) (a c : Int) (more : Bool) : (Nat → Nap) × Bool × Nat :=
  if thP X a = true then (if acP c = true then (if mayN (X a.toNat) c.toNat = true then (updF X a.toNat (sentN (X a.toNat) more).1, (sentN (X a.toNat) more).2, 0) else (X, false, 110)) else (X, false, 103)) else (X, false, 107)
def closeN (p : Nap) : Nap × Nat := if p.opn = true then ({ p with opn := false }, 0) else (p, 110)
def closeP (X : Nat → Nap) (a : Int) : (Nat → Nap) × Nat := if thP X a = true then (updF X a.toNat (closeN (X a.toNat)).1, (closeN (X a.toNat)).2) else (X, 107)
def aslP (X : Nat → Nap) (a : Int) : Bool := thP X a && (X a.toNat).asleep
def askP (X : Nat → Nap) (a : Int) : Bool := thP X a && (X a.toNat).asked
/-- what always holds of them. -/
structure InvP (X : Nat → Nap) : Prop where
  one : ∀ k, InvN (X k)
  most : ∀ k, (X k).most ≤ 8 ∧ (X k).left ≤ 8
theorem invP_0 : InvP fun _ => nap0 := ⟨fun _ => invN_0, fun _ => ⟨Nat.zero_le _, Nat.zero_le _⟩⟩
section
variable {X : Nat → Nap}
theorem InvP.upd (h : InvP X) {k : Nat} {p : Nap} (hp : InvN p) (hm : p.most ≤ 8 ∧ p.left ≤ 8) : InvP (updF X k p) := by
  refine ⟨fun j => ?_, fun j => ?_⟩
  · by_cases e : j = k
    · subst e; rw [updF_same]; exact hp
    · rw [updF_ne e]; exact h.one j
  · by_cases e : j = k
    · subst e; rw [updF_same]; exact hm
    · rw [updF_ne e]; exact h.most j
theorem InvP.add (h : InvP X) (a : Int) (u : Nat → Bool) (m : Int) : InvP (addP X a u m).1 := by
  unfold addP
  split
  · rename_i hc
    split
    · exact h
    · obtain ⟨k, rfl, hk⟩ := mostP_nat hc.2
      exact h.upd (invN_add _ _) ⟨by show (k : Int).toNat ≤ 8; omega, Nat.zero_le _⟩
  · exact h
theorem InvP.del (h : InvP X) (a : Int) : InvP (delP X a) := by
  unfold delP
  split
  · exact h.upd invN_0 ⟨Nat.zero_le _, Nat.zero_le _⟩
  · exact h
theorem th_there {a : Int} (h : thP X a = true) : (X a.toNat).there = true := by unfold thP at h; simp only [Bool.and_eq_true] at h; exact h.2
theorem InvP.doze (h : InvP X) (a : Int) (on : Bool) : InvP (dozeP X a on).1 := by
  unfold dozeP
  split
  · rename_i hc
    refine h.upd ((h.one _).doze (th_there hc) on) ?_
    have := h.most a.toNat
    unfold dozeN
    split <;> exact this
  · exact h
theorem InvP.poll (h : InvP X) (a : Int) : InvP (pollP X a).1 := by
  unfold pollP
  split
  · refine h.upd (h.one _).poll ?_
    have := h.most a.toNat
    unfold pollN
    split <;> exact this
  · exact h
theorem InvP.trig (h : InvP X) (a c : Int) : InvP (trigP X a c).1 := by
  unfold trigP
  split
  · split
    · refine h.upd ((h.one _).trig _) ?_
      have := h.most a.toNat
      unfold trigN
      split
      · exact this
      · exact ⟨this.1, this.1⟩
    · exact h
  · exact h
theorem InvN.close {p : Nap} (h : InvN p) : InvN (closeN p).1 := by
  unfold closeN
  split
  · exact ⟨fun h2 => ⟨(h.awake h2).1, rfl⟩, (by rintro ⟨-, h2⟩; cases h2), (fun h2 => by cases h2), h.gone⟩
  · exact h
theorem InvP.close (h : InvP X) (a : Int) : InvP (closeP X a).1 := by
  unfold closeP
  split
  · refine h.upd (h.one _).close ?_
    have := h.most a.toNat
    unfold closeN
    split <;> exact this
  · exact h
theorem InvN.sent {p : Nap} (h : InvN p) (ht : p.there = true) (more : Bool) : InvN (sentN p more).1 := by
  unfold sentN
  split
  · exact h
  · rename_i ha
    have ha : p.asleep = true := by simpa using ha
    split
    · exact ⟨fun h2 => ⟨rfl, (h.awake h2).2⟩, (by rintro ⟨h2, -⟩; cases h2), h.left, h.gone⟩
    · rename_i hk
      refine ⟨fun h2 => absurd (show p.asleep = false from h2) (by simp [ha]), ?_, fun h2 h0 => ?_, h.gone⟩
      · rintro ⟨h2, -⟩
        exact hk h2
      · have h3 : (if lastN p more = true then false else p.opn) = true := h2
        split at h3
        · cases h3
        · rename_i hl
          have h4 := h.left h3 h0
          have h0' : 0 < p.most := h0
          unfold lastN at hl
          simp only [Bool.or_eq_true, Bool.and_eq_true, decide_eq_true_eq, not_or, not_and] at hl
          have h5 := hl.2 h0'
          show 1 ≤ (if 0 < p.most then p.left - 1 else p.left) ∧ (if 0 < p.most then p.left - 1 else p.left) ≤ p.most
          rw [if_pos h0']
          omega
theorem InvP.sent (h : InvP X) (a c : Int) (more : Bool) : InvP (sentP X a c more).1 := by
  unfold sentP
  split
  · rename_i ht
    split
    · split
      · refine h.upd ((h.one _).sent (th_there ht) more) ?_
        have := h.most a.toNat
        unfold sentN
        split
        · exact this
        · split
          · exact this
          · refine ⟨this.1, ?_⟩
            show (if 0 < (X a.toNat).most then (X a.toNat).left - 1 else (X a.toNat).left) ≤ 8
            split <;> omega
      · exact h
    · exact h
  · exact h
end
end Go.Proofs.YtaiegmnjoffloaaDoor
