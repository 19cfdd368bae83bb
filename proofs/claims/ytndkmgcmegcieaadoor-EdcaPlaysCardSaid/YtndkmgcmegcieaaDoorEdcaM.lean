/-
  MATHS OF edca: four categories, their windows and counters (and 1; 0: none); who wins. No program is named.
-/
namespace Go.Proofs.YtndkmgcmegcieaaDoor
set_option linter.unusedVariables false
set_option linter.unusedSimpArgs false

def waitE (a : Nat) : Nat := [7, 3, 2, 2].getD a 0
def leastE (a : Nat) : Nat := [15, 15, 7, 3].getD a 0
def mostE (a : Nat) : Nat := [1023, 63, 15, 7].getD a 0
/-- windows (0: as at first) and counters. -/
structure Ec where
  wd : Nat → Nat
  ct : Nat → Nat
def e0 : Ec := ⟨fun _ => 0, fun _ => 0⟩
def winE (e : Ec) (a : Nat) : Nat := max (e.wd a) (leastE a)
def widerE (e : Ec) (a : Nat) : Nat := min (2 * winE e a + 1) (mostE a)
/-- a counter behind the draw. -/
def drawE (e : Ec) (r : Nat → Bool) (d : Nat → Nat) (a : Nat) : Nat := if r a = true ∧ e.ct a = 0 then d a % (winE e a + 1) + 1 else e.ct a
def timeE (c : Nat → Nat) (a : Nat) : Nat := waitE a + c a - 1
/-- the least time of those below k that are ready, the highest of them. -/
def bestE (c : Nat → Nat) (r : Nat → Bool) : Nat → Option (Nat × Nat)
  | 0 => none
  | k + 1 => if r k = false then bestE c r k else
    match bestE c r k with
    | none => some (k, timeE c k)
    | some (a, t) => if timeE c k ≤ t then some (k, timeE c k) else some (a, t)
/-- what stands behind it. -/
def afterC (c : Nat → Nat) (r : Nat → Bool) (win t : Nat) (a : Nat) : Nat :=
  if a = win then 0 else if r a = false then c a else if timeE c a = t then 0 else max (c a - (t - waitE a)) 1
def afterW (e : Ec) (c : Nat → Nat) (r : Nat → Bool) (win t : Nat) (a : Nat) : Nat :=
  if a = win ∨ r a = false then e.wd a else if timeE c a = t then widerE e a else e.wd a
def contE (e : Ec) (r : Nat → Bool) (d : Nat → Nat) : Ec × Option (Nat × Nat) :=
  let c := drawE e r d
  match bestE c r 4 with
  | none => (⟨e.wd, c⟩, none)
  | some (win, t) => (⟨afterW e c r win t, afterC c r win t⟩, some (win, t))
def endE (e : Ec) (a : Nat) (well : Bool) : Ec := if well = true then { e with wd := fun b => if b = a then 0 else e.wd b } else { e with wd := fun b => if b = a then widerE e a else e.wd b }

/-! ### who wins -/
theorem best_none {c : Nat → Nat} {r : Nat → Bool} : ∀ {k}, bestE c r k = none ↔ ∀ a, a < k → r a = false
  | 0 => ⟨fun _ a h => by omega, fun _ => rfl⟩
  | k + 1 => by
    have ih := @best_none c r k
    unfold bestE
    cases h : r k with
    | false =>
      rw [if_pos rfl, ih]
      constructor
      · intro h1 a ha
        by_cases e : a = k
        · rw [e]; exact h
        · exact h1 a (by omega)
      · exact fun h1 a ha => h1 a (by omega)
    | true =>
      rw [if_neg (by simp)]
      constructor
      · intro h1
        exfalso
        cases hb : bestE c r k with
        | none => rw [hb] at h1; cases h1
        | some p => rw [hb] at h1; dsimp only at h1; split at h1 <;> cases h1
      · intro h1
        have := h1 k (by omega)
        rw [h] at this; cases this
theorem best_some {c : Nat → Nat} {r : Nat → Bool} {a t : Nat} : ∀ {k}, bestE c r k = some (a, t) → a < k ∧ r a = true ∧ t = timeE c a ∧ (∀ b, b < k → r b = true → t ≤ timeE c b) ∧ ∀ b, a < b → b < k → r b = true → t < timeE c b
  | 0, h => by cases h
  | k + 1, h => by
    unfold bestE at h
    cases hr : r k with
    | false =>
      rw [hr, if_pos rfl] at h
      obtain ⟨h1, h2, h3, h4, h5⟩ := best_some h
      refine ⟨by omega, h2, h3, fun b hb hrb => ?_, fun b hab hb hrb => ?_⟩
      · by_cases e : b = k
        · rw [e, hr] at hrb; cases hrb
        · exact h4 b (by omega) hrb
      · by_cases e : b = k
        · rw [e, hr] at hrb; cases hrb
        · exact h5 b hab (by omega) hrb
    | true =>
      rw [hr, if_neg (by simp)] at h
      cases hb : bestE c r k with
      | none =>
        rw [hb] at h
        dsimp only at h
        cases h
        have hn := best_none.1 hb
        refine ⟨by omega, hr, rfl, fun b hb hrb => ?_, fun b hab hb hrb => by omega⟩
        by_cases e : b = a
        · rw [e]; exact Nat.le_refl _
        · rw [hn b (by omega)] at hrb; cases hrb
      | some p =>
        obtain ⟨a2, t2⟩ := p
        rw [hb] at h
        dsimp only at h
        obtain ⟨h1, h2, h3, h4, h5⟩ := best_some hb
        by_cases ht : timeE c k ≤ t2
        · rw [if_pos ht] at h
          cases h
          refine ⟨by omega, hr, rfl, fun b hb hrb => ?_, fun b hab hb hrb => by omega⟩
          by_cases e : b = a
          · rw [e]; exact Nat.le_refl _
          · exact Nat.le_trans ht (h4 b (by omega) hrb)
        · rw [if_neg ht] at h
          cases h
          refine ⟨by omega, h2, h3, fun b hb hrb => ?_, fun b hab hb hrb => ?_⟩
          · by_cases e : b = k
            · rw [e]; omega
            · exact h4 b (by omega) hrb
          · by_cases e : b = k
            · rw [e]; omega
            · exact h5 b hab (by omega) hrb
/-- one alone. -/
theorem best_alone {c : Nat → Nat} {r : Nat → Bool} {a : Nat} (ha : a < 4) (hr : ∀ b, b < 4 → (r b = true ↔ b = a)) : bestE c r 4 = some (a, timeE c a) := by
  cases h : bestE c r 4 with
  | none =>
    have := best_none.1 h a ha
    rw [(hr a ha).2 rfl] at this; cases this
  | some p =>
    obtain ⟨b, t⟩ := p
    obtain ⟨h1, h2, h3, -⟩ := best_some h
    have := (hr b h1).1 h2
    subst this
    rw [h3]

/-! ### windows, counters: bounds -/
structure InvE (e : Ec) : Prop where
  wd : ∀ a, e.wd a ≤ mostE a
  ct : ∀ a, e.ct a ≤ 1024
theorem most_le (a : Nat) : leastE a ≤ mostE a ∧ mostE a ≤ 1023 := by
  match a with
  | 0 | 1 | 2 | 3 => decide
  | n + 4 => exact ⟨Nat.le_refl 0, by show 0 ≤ 1023; omega⟩
theorem wait_le (a : Nat) : waitE a ≤ 7 := by
  match a with
  | 0 | 1 | 2 | 3 => decide
  | n + 4 => show 0 ≤ 7; omega
theorem inv_e0 : InvE e0 := ⟨fun a => Nat.zero_le _, fun a => Nat.zero_le _⟩
theorem InvE.win {e : Ec} (h : InvE e) (a : Nat) : leastE a ≤ winE e a ∧ winE e a ≤ mostE a := by
  have := h.wd a
  have := (most_le a).1
  unfold winE
  omega
theorem InvE.wider {e : Ec} (h : InvE e) (a : Nat) : widerE e a ≤ mostE a := Nat.min_le_right _ _
theorem InvE.draw {e : Ec} (h : InvE e) (r : Nat → Bool) (d : Nat → Nat) (a : Nat) : drawE e r d a ≤ 1024 := by
  unfold drawE
  split
  · have h1 := (h.win a).2
    have h2 := (most_le a).2
    have := Nat.mod_lt (d a) (show 0 < winE e a + 1 by omega)
    omega
  · exact h.ct a
theorem InvE.ready {e : Ec} (r : Nat → Bool) (d : Nat → Nat) {a : Nat} (hr : r a = true) : 1 ≤ drawE e r d a := by
  unfold drawE
  by_cases h : e.ct a = 0
  · rw [if_pos ⟨hr, h⟩]; omega
  · rw [if_neg (fun h2 => h h2.2)]; omega
theorem InvE.cont {e : Ec} (h : InvE e) (r : Nat → Bool) (d : Nat → Nat) : InvE (contE e r d).1 := by
  unfold contE
  dsimp only
  cases hb : bestE (drawE e r d) r 4 with
  | none => exact ⟨h.wd, h.draw r d⟩
  | some p =>
    obtain ⟨win, t⟩ := p
    refine ⟨fun a => ?_, fun a => ?_⟩
    · show afterW e _ r win t a ≤ _
      unfold afterW
      split
      · exact h.wd a
      · split
        · exact h.wider a
        · exact h.wd a
    · show afterC _ r win t a ≤ _
      have := h.draw r d a
      unfold afterC
      split
      · omega
      · split
        · exact this
        · split
          · omega
          · omega
theorem InvE.end {e : Ec} (h : InvE e) (a : Nat) (well : Bool) : InvE (endE e a well) := by
  unfold endE
  split
  · refine ⟨fun b => ?_, h.ct⟩
    show (if b = a then 0 else e.wd b) ≤ _
    split
    · omega
    · exact h.wd b
  · refine ⟨fun b => ?_, h.ct⟩
    show (if b = a then widerE e a else e.wd b) ≤ _
    split
    · rename_i hba; rw [hba]; exact h.wider a
    · exact h.wd b

/-! ### EdcaAlone: one that contends alone, that goes ill i times -/
def growE (a : Nat) : Nat → Nat
  | 0 => leastE a
  | i + 1 => min (2 * growE a i + 1) (mostE a)
theorem grow_le (a : Nat) : ∀ i, leastE a ≤ growE a i ∧ growE a i ≤ mostE a
  | 0 => ⟨Nat.le_refl _, (most_le a).1⟩
  | i + 1 => by
    have := grow_le a i
    have := (most_le a).1
    unfold growE
    omega
/-- alone, behind i that went ill. -/
structure AloneE (e : Ec) (a i : Nat) : Prop where
  win : winE e a = growE a i
  ct : e.ct a = 0
theorem alone_0 (a : Nat) : AloneE e0 a 0 := ⟨by unfold winE e0 growE; simp, rfl⟩
theorem alone_cont {e : Ec} {a i : Nat} (h : AloneE e a i) (ha : a < 4) {r : Nat → Bool} (hr : ∀ b, b < 4 → (r b = true ↔ b = a)) (d : Nat → Nat) :
    (contE e r d).2 = some (a, waitE a + d a % (growE a i + 1)) ∧ AloneE (contE e r d).1 a i := by
  have hd : drawE e r d a = d a % (growE a i + 1) + 1 := by
    unfold drawE
    rw [if_pos ⟨(hr a ha).2 rfl, h.ct⟩, h.win]
  have hb := best_alone (c := drawE e r d) ha hr
  unfold contE
  dsimp only
  rw [hb]
  dsimp only
  have ht : timeE (drawE e r d) a = waitE a + d a % (growE a i + 1) := by
    unfold timeE
    rw [hd]
    omega
  rw [ht]
  refine ⟨rfl, ?_, ?_⟩
  · show max (afterW e _ r a _ a) (leastE a) = _
    unfold afterW
    rw [if_pos (.inl rfl)]
    exact h.win
  · show afterC _ r a _ a = 0
    unfold afterC
    rw [if_pos rfl]
theorem alone_ill {e : Ec} {a i : Nat} (h : AloneE e a i) : AloneE (endE e a false) a (i + 1) := by
  refine ⟨?_, h.ct⟩
  show max (if a = a then widerE e a else e.wd a) (leastE a) = growE a (i + 1)
  rw [if_pos rfl]
  unfold widerE
  rw [h.win]
  have hg : growE a (i + 1) = min (2 * growE a i + 1) (mostE a) := rfl
  have := grow_le a (i + 1)
  rw [hg] at this ⊢
  omega
theorem alone_well {e : Ec} {a i : Nat} (h : AloneE e a i) : AloneE (endE e a true) a 0 := by
  refine ⟨?_, h.ct⟩
  show max (if a = a then 0 else e.wd a) (leastE a) = leastE a
  rw [if_pos rfl]
  omega
end Go.Proofs.YtndkmgcmegcieaaDoor
