/-
  MATHS OF ps: one station's sleep: what it may be sent, a frame asked for, a period. No program is named.
-/
namespace Go.Proofs.YtaiegmnjoffloaaDoor
set_option linter.unusedVariables false
set_option linter.unusedSimpArgs false

structure Nap where
  there : Bool
  asleep : Bool
  asked : Bool
  opn : Bool
  most : Nat
  left : Nat
  u : Nat → Bool
def nap0 : Nap := ⟨false, false, false, false, 0, 0, fun _ => false⟩
def addN (u : Nat → Bool) (most : Nat) : Nap := ⟨true, false, false, false, most, 0, u⟩
def dozeN (p : Nap) (on : Bool) : Nap := if p.asleep = on then p else { p with asleep := on, asked := false, opn := false }
def pollN (p : Nap) : Nap × Nat := if p.asleep = false ∨ p.opn = true then (p, 110) else ({ p with asked := true }, 0)
def trigN (p : Nap) (ac : Nat) : Nap × Nat := if p.asleep = false ∨ p.asked = true ∨ p.opn = true ∨ p.u ac = false then (p, 110) else ({ p with opn := true, left := p.most }, 0)
def mayN (p : Nap) (ac : Nat) : Bool := p.there && (!p.asleep || p.asked || p.opn && p.u ac)
def lastN (p : Nap) (more : Bool) : Bool := !more || (decide (0 < p.most) && decide (p.left - 1 = 0))
def sentN (p : Nap) (more : Bool) : Nap × Bool :=
  if p.asleep = false then (p, false) else if p.asked = true then ({ p with asked := false }, false)
  else ({ p with left := if 0 < p.most then p.left - 1 else p.left, opn := if lastN p more = true then false else p.opn }, lastN p more)
/-- what always holds of one: awake, nothing is asked for and no period is open; never both. -/
structure InvN (p : Nap) : Prop where
  awake : p.asleep = false → p.asked = false ∧ p.opn = false
  one : ¬ (p.asked = true ∧ p.opn = true)
  left : p.opn = true → 0 < p.most → 1 ≤ p.left ∧ p.left ≤ p.most
  gone : p.there = false → p.asleep = false
theorem invN_0 : InvN nap0 := ⟨fun _ => ⟨rfl, rfl⟩, (by rintro ⟨h, -⟩; cases h), (fun h => by cases h), fun _ => rfl⟩
theorem invN_add (u : Nat → Bool) (most : Nat) : InvN (addN u most) := ⟨fun _ => ⟨rfl, rfl⟩, (by rintro ⟨h, -⟩; cases h), (fun h => by cases h), fun h => rfl⟩
theorem InvN.doze {p : Nap} (h : InvN p) (ht : p.there = true) (on : Bool) : InvN (dozeN p on) := by
  unfold dozeN
  split
  · exact h
  · exact ⟨fun _ => ⟨rfl, rfl⟩, (by rintro ⟨h, -⟩; cases h), (fun h => by cases h), fun h2 => by have h3 : p.there = false := h2; rw [ht] at h3; cases h3⟩
theorem InvN.poll {p : Nap} (h : InvN p) : InvN (pollN p).1 := by
  unfold pollN
  split
  · exact h
  · rename_i hn
    refine ⟨fun h2 => absurd (.inl h2) hn, ?_, fun h2 => absurd (.inr h2) hn, h.gone⟩
    rintro ⟨-, h2⟩
    exact hn (.inr h2)
theorem InvN.trig {p : Nap} (h : InvN p) (ac : Nat) : InvN (trigN p ac).1 := by
  unfold trigN
  split
  · exact h
  · rename_i hn
    refine ⟨fun h2 => absurd (.inl h2) hn, ?_, fun _ h0 => ⟨h0, Nat.le_refl _⟩, h.gone⟩
    rintro ⟨h2, -⟩
    exact hn (.inr (.inl h2))
/-- PsOne: one frame for each asking, however often it asked. -/
theorem poll_may {p : Nap} (ht : p.there = true) (ha : p.asleep = true) (ho : p.opn = false) (ac : Nat) : (pollN p).2 = 0 ∧ (pollN p).1 = { p with asked := true } ∧ mayN (pollN p).1 ac = true := by
  have e : pollN p = ({ p with asked := true }, 0) := by
    unfold pollN
    rw [if_neg (by rw [ha, ho]; simp)]
  rw [e]
  refine ⟨rfl, rfl, ?_⟩
  show (p.there && (!p.asleep || true || p.opn && p.u ac)) = true
  rw [ht, ha]; rfl
theorem asked_sent {p : Nap} (ha : p.asleep = true) (hk : p.asked = true) (more : Bool) : sentN p more = ({ p with asked := false }, false) := by
  unfold sentN
  rw [if_neg (by rw [ha]; simp), if_pos hk]
theorem quiet_may {p : Nap} (ha : p.asleep = true) (hk : p.asked = false) (ho : p.opn = false) (ac : Nat) : mayN p ac = false := by
  unfold mayN
  rw [ha, hk, ho]
  simp
/-- PsPeriods: a period of which i went. -/
structure PerN (p : Nap) (u : Nat → Bool) (most i : Nat) : Prop where
  there : p.there = true
  asleep : p.asleep = true
  asked : p.asked = false
  opn : p.opn = true
  mo : p.most = most
  left : 0 < most → p.left = most - i
  lt : 0 < most → i < most
  ua : p.u = u
theorem per_trig {p : Nap} {u : Nat → Bool} {most ac : Nat} (h1 : p.there = true) (h2 : p.asleep = true) (h3 : p.asked = false) (h4 : p.opn = false) (h5 : p.most = most) (h6 : p.u = u) (hu : u ac = true) : (trigN p ac).2 = 0 ∧ PerN (trigN p ac).1 u most 0 := by
  have e : trigN p ac = ({ p with opn := true, left := p.most }, 0) := by
    unfold trigN
    rw [if_neg (by rw [h2, h3, h4, h6, hu]; simp)]
  rw [e]
  exact ⟨rfl, h1, h2, h3, rfl, h5, fun _ => by show p.most = _; omega, fun h => h, h6⟩
theorem per_may {p : Nap} {u : Nat → Bool} {most i : Nat} (h : PerN p u most i) (ac : Nat) : mayN p ac = u ac := by
  unfold mayN
  rw [h.there, h.asleep, h.asked, h.opn, h.ua]
  simp
theorem per_last {p : Nap} {u : Nat → Bool} {most i : Nat} (h : PerN p u most i) (more : Bool) : lastN p more = (!more || decide (0 < most ∧ i + 1 = most)) := by
  unfold lastN
  rw [h.mo]
  congr 1
  by_cases h0 : 0 < most
  · rw [decide_eq_true h0, Bool.true_and, h.left h0]
    have := h.lt h0
    by_cases e : i + 1 = most
    · rw [decide_eq_true (by omega), decide_eq_true ⟨h0, e⟩]
    · rw [decide_eq_false (by omega), decide_eq_false (fun h2 => e h2.2)]
  · rw [decide_eq_false h0, Bool.false_and]
    exact (decide_eq_false (fun h2 : 0 < most ∧ i + 1 = most => h0 h2.1)).symm
theorem per_sent {p : Nap} {u : Nat → Bool} {most i : Nat} (h : PerN p u most i) (more : Bool) : (sentN p more).2 = (!more || decide (0 < most ∧ i + 1 = most)) ∧
    ((sentN p more).2 = false → PerN (sentN p more).1 u most (i + 1)) ∧ ((sentN p more).2 = true → (sentN p more).1.opn = false ∧ (sentN p more).1.asked = false ∧ (sentN p more).1.asleep = true) := by
  have hl := per_last h more
  have e : sentN p more = ({ p with left := if 0 < p.most then p.left - 1 else p.left, opn := if lastN p more = true then false else p.opn }, lastN p more) := by
    unfold sentN
    rw [if_neg (by rw [h.asleep]; simp), if_neg (by rw [h.asked]; simp)]
  rw [e]
  refine ⟨hl, fun h2 => ?_, fun h2 => ?_⟩
  · have h2' : lastN p more = false := h2
    have h3 : ¬ (0 < most ∧ i + 1 = most) := fun h4 => by
      rw [hl, decide_eq_true h4, Bool.or_true] at h2'
      cases h2'
    refine ⟨h.there, h.asleep, h.asked, ?_, h.mo, fun h0 => ?_, fun h0 => ?_, h.ua⟩
    · show (if lastN p more = true then false else p.opn) = true
      rw [h2', if_neg (by simp)]
      exact h.opn
    · show (if 0 < p.most then p.left - 1 else p.left) = _
      rw [h.mo, if_pos h0, h.left h0]
      omega
    · have := h.lt h0
      have : ¬ i + 1 = most := fun e => h3 ⟨h0, e⟩
      omega
  · have h2' : lastN p more = true := h2
    refine ⟨?_, h.asked, h.asleep⟩
    show (if lastN p more = true then false else p.opn) = false
    rw [h2', if_pos rfl]
end Go.Proofs.YtaiegmnjoffloaaDoor
