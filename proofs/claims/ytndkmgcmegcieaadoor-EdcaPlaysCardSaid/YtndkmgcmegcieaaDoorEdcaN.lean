/-
  MATHS OF edca: nobody ready; one with a counter alone; two that begin at once. No program is named.
-/
import Derived.Test.YtndkmgcmegcieaaDoorEdcaM
namespace Go.Proofs.YtndkmgcmegcieaaDoor
set_option linter.unusedVariables false
set_option linter.unusedSimpArgs false
section
variable {e : Ec} {r : Nat → Bool} {d : Nat → Nat}
theorem draw_keep {a : Nat} (h : r a = false) : drawE e r d a = e.ct a := by
  unfold drawE
  rw [if_neg (by rw [h]; simp)]
theorem cont_none (h : ∀ a, a < 4 → r a = false) : (contE e r d).2 = none ∧ (∀ a, a < 4 → (contE e r d).1.ct a = e.ct a) ∧ (contE e r d).1.wd = e.wd := by
  have hb : bestE (drawE e r d) r 4 = none := best_none.2 h
  unfold contE
  dsimp only
  rw [hb]
  exact ⟨rfl, fun a ha => draw_keep (h a ha), rfl⟩
/-- who is not ready keeps what it has. -/
theorem cont_keep {a : Nat} (h : r a = false) : (contE e r d).1.ct a = e.ct a ∧ (contE e r d).1.wd a = e.wd a := by
  unfold contE
  dsimp only
  cases hb : bestE (drawE e r d) r 4 with
  | none => exact ⟨draw_keep h, rfl⟩
  | some p =>
    obtain ⟨win, t⟩ := p
    have hw := (best_some hb).2.1
    have hne : a ≠ win := fun e => by rw [e] at h; rw [h] at hw; cases hw
    constructor
    · show afterC _ r win t a = _
      unfold afterC
      rw [if_neg hne, if_pos h]
      exact draw_keep h
    · show afterW e _ r win t a = _
      unfold afterW
      rw [if_pos (.inr h)]
theorem alone_has {a c : Nat} (ha : a < 4) (hr : ∀ b, b < 4 → (r b = true ↔ b = a)) (hc : e.ct a = c + 1) : (contE e r d).2 = some (a, waitE a + c) := by
  have hd : drawE e r d a = c + 1 := by
    unfold drawE
    rw [if_neg (by rw [hc]; omega), hc]
  have hb := best_alone (c := drawE e r d) ha hr
  unfold contE
  dsimp only
  rw [hb]
  dsimp only
  unfold timeE
  rw [hd]
  rfl
/-- background and best effort begin at once. -/
theorem two_low (h0 : r 0 = true) (h1 : r 1 = true) (h2 : r 2 = false) (h3 : r 3 = false) (c0 : e.ct 0 = 0) (c1 : e.ct 1 = 0) (w0 : winE e 0 = 15) (w1 : winE e 1 = 15) :
    (3 + d 1 % 16 < 7 + d 0 % 16 → (contE e r d).2 = some (1, 3 + d 1 % 16) ∧ (contE e r d).1.ct 0 = max (d 0 % 16 + 1 - (3 + d 1 % 16 - 7)) 1) ∧
    (7 + d 0 % 16 < 3 + d 1 % 16 → (contE e r d).2 = some (0, 7 + d 0 % 16) ∧ (contE e r d).1.ct 1 = max (d 1 % 16 + 1 - (7 + d 0 % 16 - 3)) 1) ∧
    (7 + d 0 % 16 = 3 + d 1 % 16 → (contE e r d).2 = some (1, 3 + d 1 % 16)) := by
  have d0 : drawE e r d 0 = d 0 % 16 + 1 := by unfold drawE; rw [if_pos ⟨h0, c0⟩, w0]
  have d1 : drawE e r d 1 = d 1 % 16 + 1 := by unfold drawE; rw [if_pos ⟨h1, c1⟩, w1]
  have t0 : timeE (drawE e r d) 0 = 7 + d 0 % 16 := by unfold timeE; rw [d0]; show 7 + (d 0 % 16 + 1) - 1 = _; omega
  have t1 : timeE (drawE e r d) 1 = 3 + d 1 % 16 := by unfold timeE; rw [d1]; show 3 + (d 1 % 16 + 1) - 1 = _; omega
  have hb : bestE (drawE e r d) r 4 = if 3 + d 1 % 16 ≤ 7 + d 0 % 16 then some (1, 3 + d 1 % 16) else some (0, 7 + d 0 % 16) := by
    simp only [bestE, h0, h1, h2, h3, t0, t1]
    rfl
  refine ⟨fun h => ?_, fun h => ?_, fun h => ?_⟩
  · unfold contE
    dsimp only
    rw [hb, if_pos (Nat.le_of_lt h)]
    refine ⟨rfl, ?_⟩
    show afterC _ r 1 _ 0 = _
    unfold afterC
    rw [if_neg (by decide), if_neg (by rw [h0]; simp), t0, if_neg (by omega), d0]
    rfl
  · unfold contE
    dsimp only
    rw [hb, if_neg (by omega)]
    refine ⟨rfl, ?_⟩
    show afterC _ r 0 _ 1 = _
    unfold afterC
    rw [if_neg (by decide), if_neg (by rw [h1]; simp), t1, if_neg (by omega), d1]
    rfl
  · unfold contE
    dsimp only
    rw [hb, if_pos (by omega)]
/-- video and voice begin at once. -/
theorem two_high (h0 : r 0 = false) (h1 : r 1 = false) (h2 : r 2 = true) (h3 : r 3 = true) (c2 : e.ct 2 = 0) (c3 : e.ct 3 = 0) (w2 : winE e 2 = 7) (w3 : winE e 3 = 3) :
    (d 2 % 8 < d 3 % 4 → (contE e r d).2 = some (2, 2 + d 2 % 8) ∧ (contE e r d).1.ct 3 = d 3 % 4 - d 2 % 8 + 1) ∧
    (d 3 % 4 = d 2 % 8 → (contE e r d).2 = some (3, 2 + d 3 % 4) ∧ (contE e r d).1.ct 2 = 0 ∧ winE (contE e r d).1 2 = 15 ∧ winE (contE e r d).1 3 = 3) ∧
    (d 3 % 4 < d 2 % 8 → (contE e r d).2 = some (3, 2 + d 3 % 4) ∧ (contE e r d).1.ct 2 = d 2 % 8 - d 3 % 4 + 1 ∧ winE (contE e r d).1 2 = 7) := by
  have d2 : drawE e r d 2 = d 2 % 8 + 1 := by unfold drawE; rw [if_pos ⟨h2, c2⟩, w2]
  have d3 : drawE e r d 3 = d 3 % 4 + 1 := by unfold drawE; rw [if_pos ⟨h3, c3⟩, w3]
  have t2 : timeE (drawE e r d) 2 = 2 + d 2 % 8 := by unfold timeE; rw [d2]; show 2 + (d 2 % 8 + 1) - 1 = _; omega
  have t3 : timeE (drawE e r d) 3 = 2 + d 3 % 4 := by unfold timeE; rw [d3]; show 2 + (d 3 % 4 + 1) - 1 = _; omega
  have hb : bestE (drawE e r d) r 4 = if 2 + d 3 % 4 ≤ 2 + d 2 % 8 then some (3, 2 + d 3 % 4) else some (2, 2 + d 2 % 8) := by
    simp only [bestE, h0, h1, h2, h3, t2, t3]
    rfl
  have hm : d 3 % 4 < 4 := Nat.mod_lt _ (by decide)
  refine ⟨fun h => ?_, fun h => ?_, fun h => ?_⟩
  · unfold contE
    dsimp only
    rw [hb, if_neg (by omega)]
    refine ⟨rfl, ?_⟩
    show afterC _ r 2 _ 3 = _
    unfold afterC
    rw [if_neg (by decide), if_neg (by rw [h3]; simp), t3, if_neg (by omega), d3]
    show max (d 3 % 4 + 1 - (2 + d 2 % 8 - 2)) 1 = _
    omega
  · unfold contE
    dsimp only
    rw [hb, if_pos (by omega)]
    refine ⟨rfl, ?_, ?_, ?_⟩
    · show afterC _ r 3 _ 2 = _
      unfold afterC
      rw [if_neg (by decide), if_neg (by rw [h2]; simp), t2, if_pos (by omega)]
    · show max (afterW e (drawE e r d) r 3 (2 + d 3 % 4) 2) 7 = 15
      unfold afterW
      rw [if_neg (by rw [h2]; simp), t2, if_pos (by omega)]
      unfold widerE
      rw [w2]
      rfl
    · show max (afterW e (drawE e r d) r 3 (2 + d 3 % 4) 3) (leastE 3) = 3
      unfold afterW
      rw [if_pos (.inl rfl)]
      exact w3
  · unfold contE
    dsimp only
    rw [hb, if_pos (by omega)]
    refine ⟨rfl, ?_, ?_⟩
    · show afterC _ r 3 _ 2 = _
      unfold afterC
      rw [if_neg (by decide), if_neg (by rw [h2]; simp), t2, if_neg (by omega), d2]
      show max (d 2 % 8 + 1 - (2 + d 3 % 4 - 2)) 1 = _
      omega
    · show max (afterW e (drawE e r d) r 3 (2 + d 3 % 4) 2) (leastE 2) = 7
      unfold afterW
      rw [if_neg (by rw [h2]; simp), t2, if_neg (by omega)]
      exact w2
end
end Go.Proofs.YtndkmgcmegcieaaDoor
