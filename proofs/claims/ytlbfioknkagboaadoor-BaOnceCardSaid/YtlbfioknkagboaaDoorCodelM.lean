/-
  MATHS OF WHAT WAITED TOO LONG: a pull as a function of the state and of the queue; what it keeps. No program is named.
-/
import Derived.Test.YtlbfioknkagboaaDoorInvM
namespace Go.Proofs.YtlbfioknkagboaaDoor
set_option linter.unusedVariables false
set_option linter.unusedSimpArgs false

structure It where
  at_ : Int
  len : Int
structure Cd where
  first : Int
  drop : Int
  count : Nat
  last : Nat
  on : Bool
/-- what a pull is told: now, target and interval (cut to their range). -/
structure Pl where
  now : Int
  target : Int
  interval : Int
/-! ### to look at the next one -/
def lookB (bytes : Int) : List It → Int
  | [] => bytes
  | x :: _ => bytes - max x.len 0
def soonB (q : Pl) (bytes : Int) (x : It) : Bool := decide (q.now - x.at_ < q.target) || decide (bytes - max x.len 0 ≤ 1514)
def lookF (q : Pl) (first bytes : Int) : List It → Int
  | [] => 0
  | x :: _ => if soonB q bytes x = true then 0 else if first = 0 then q.now + q.interval else first
def lookL (q : Pl) (first bytes : Int) : List It → Bool
  | [] => false
  | x :: _ => !soonB q bytes x && decide (first ≠ 0) && decide (first ≤ q.now)
/-! ### to go on dropping: the one ahead was looked at, and is late -/
def more (c : Nat) : Nat := if c < 4294967295 then c + 1 else c
def dropsR (q : Pl) (n : Nat) (c : Cd) (bytes : Int) : List It → Cd × Nat × Bool
  | [] => (c, n, false)
  | x :: r =>
    if c.drop ≤ q.now then
      if lookL q c.first bytes r = true then
        dropsR q (n + 1) ⟨lookF q c.first bytes r, nextN c.drop q.interval (more c.count), more c.count, c.last, true⟩ (lookB bytes r) r
      else (⟨lookF q c.first bytes r, c.drop, more c.count, c.last, false⟩, n + 1, !r.isEmpty)
    else (c, n, true)
def begins (q : Pl) (c : Cd) : Nat := if (c.count + 4294967296 - c.last) % 4294967296 ≤ 1 ∨ 16 * q.interval ≤ q.now - c.drop then 1 else (c.count + 4294967296 - c.last) % 4294967296
def pullR (q : Pl) (c : Cd) (bytes : Int) (l : List It) : Cd × Nat × Bool :=
  if l.isEmpty = true then (⟨0, c.drop, c.count, c.last, false⟩, 0, false)
  else if c.on = true then
    if lookL q c.first bytes l = true then dropsR q 0 ⟨lookF q c.first bytes l, c.drop, c.count, c.last, true⟩ (lookB bytes l) l
    else (⟨lookF q c.first bytes l, c.drop, c.count, c.last, false⟩, 0, true)
  else if lookL q c.first bytes l = true then
    (⟨lookF q (lookF q c.first bytes l) (lookB bytes l) l.tail, nextN q.now q.interval (begins q c), begins q c, begins q c, true⟩, 1, !l.tail.isEmpty)
  else (⟨lookF q c.first bytes l, c.drop, c.count, c.last, false⟩, 0, true)
theorem lookF_nil (q : Pl) (first bytes : Int) : lookF q first bytes [] = 0 := rfl
theorem lookF_cons (q : Pl) (first bytes : Int) (x : It) (r : List It) : lookF q first bytes (x :: r) = if soonB q bytes x = true then 0 else if first = 0 then q.now + q.interval else first := rfl
theorem lookL_cons (q : Pl) (first bytes : Int) (x : It) (r : List It) : lookL q first bytes (x :: r) = (!soonB q bytes x && decide (first ≠ 0) && decide (first ≤ q.now)) := rfl
theorem pull_none (q : Pl) (c : Cd) (bytes : Int) : pullR q c bytes [] = (⟨0, c.drop, c.count, c.last, false⟩, 0, false) := rfl
theorem look_late {q : Pl} {first bytes : Int} {l : List It} (h : lookL q first bytes l = true) : l ≠ [] ∧ lookF q first bytes l = first ∧ first ≠ 0 ∧ first ≤ q.now := by
  cases l with
  | nil => cases h
  | cons x r =>
    rw [lookL_cons] at h
    simp only [Bool.and_eq_true, Bool.not_eq_true', decide_eq_true_eq] at h
    refine ⟨by simp, ?_, h.1.2, h.2⟩
    rw [lookF_cons, if_neg (by rw [h.1.1]; decide), if_neg h.1.2]
theorem lookF_in {q : Pl} {first bytes : Int} {l : List It} (h0 : 0 ≤ first) (h1 : 0 ≤ q.now) (h2 : 0 ≤ q.interval) : 0 ≤ lookF q first bytes l ∧ lookF q first bytes l ≤ max first (q.now + q.interval) := by
  cases l with
  | nil => rw [lookF_nil]; omega
  | cons x r => rw [lookF_cons]; split <;> (try split) <;> omega
/-- what is dropped and taken are the first ones. -/
theorem drops_bound (q : Pl) : ∀ (l : List It) (n : Nat) (c : Cd) (bytes : Int), l ≠ [] → n ≤ (dropsR q n c bytes l).2.1 ∧ (dropsR q n c bytes l).2.1 ≤ n + l.length ∧
    ((dropsR q n c bytes l).2.2 = true → (dropsR q n c bytes l).2.1 < n + l.length) ∧ ((dropsR q n c bytes l).2.2 = false → (dropsR q n c bytes l).2.1 = n + l.length ∧ (dropsR q n c bytes l).1.on = false)
  | [], n, c, bytes, h => absurd rfl h
  | x :: r, n, c, bytes, _ => by
    unfold dropsR
    split
    · split
      · rename_i h1 h2
        obtain ⟨a1, a2, a3, a4⟩ := drops_bound q r (n + 1) ⟨lookF q c.first bytes r, nextN c.drop q.interval (more c.count), more c.count, c.last, true⟩ (lookB bytes r) (look_late h2).1
        simp only [List.length_cons]
        refine ⟨by omega, by omega, fun h => by have := a3 h; omega, fun h => ?_⟩
        obtain ⟨b1, b2⟩ := a4 h
        exact ⟨by omega, b2⟩
      · simp only [List.length_cons]
        refine ⟨by omega, by omega, fun h => ?_, fun h => ⟨?_, trivial⟩⟩
        · cases r with
          | nil => cases h
          | cons y r => simp
        · cases r with
          | nil => rfl
          | cons y r => cases h
    · simp only [List.length_cons]
      exact ⟨by omega, by omega, fun _ => by omega, fun h => by cases h⟩
theorem pull_bound (q : Pl) (c : Cd) (bytes : Int) (l : List It) : (pullR q c bytes l).2.1 ≤ l.length ∧ ((pullR q c bytes l).2.2 = true → (pullR q c bytes l).2.1 < l.length) ∧ ((pullR q c bytes l).2.2 = false → (pullR q c bytes l).2.1 = l.length) ∧
    ((pullR q c bytes l).2.2 = true ∨ (pullR q c bytes l).1.on = false ∨ 0 < (pullR q c bytes l).2.1) := by
  cases l with
  | nil =>
    rw [pull_none]
    exact ⟨Nat.le_refl _, fun h => (by cases h), fun _ => rfl, .inr (.inl rfl)⟩
  | cons x r =>
    unfold pullR
    rw [if_neg (by simp)]
    split
    · split
      · rename_i h1 h2
        obtain ⟨a1, a2, a3, a4⟩ := drops_bound q (x :: r) 0 ⟨lookF q c.first bytes (x :: r), c.drop, c.count, c.last, true⟩ (lookB bytes (x :: r)) (by simp)
        refine ⟨by omega, fun h => by have := a3 h; omega, fun h => by have := (a4 h).1; omega, ?_⟩
        cases hb : (dropsR q 0 ⟨lookF q c.first bytes (x :: r), c.drop, c.count, c.last, true⟩ (lookB bytes (x :: r)) (x :: r)).2.2
        · exact .inr (.inl (a4 hb).2)
        · exact .inl rfl
      · exact ⟨by simp, fun _ => by simp, fun h => (by cases h), .inl rfl⟩
    · split
      · cases r with
        | nil => exact ⟨by simp, fun h => (by cases h), fun _ => rfl, .inr (.inr (by simp))⟩
        | cons y r => exact ⟨by simp, fun _ => by simp, fun h => (by cases h), .inl rfl⟩
      · exact ⟨by simp, fun _ => by simp, fun h => (by cases h), .inl rfl⟩
/-- a calm queue: the first one is taken. -/
theorem pull_calm {q : Pl} {c : Cd} {bytes : Int} {x : It} {r : List It} (hon : c.on = false) (h : soonB q bytes x = true) : pullR q c bytes (x :: r) = (⟨0, c.drop, c.count, c.last, false⟩, 0, true) := by
  have h1 : lookL q c.first bytes (x :: r) = false := by rw [lookL_cons, h]; rfl
  have h2 : lookF q c.first bytes (x :: r) = 0 := by rw [lookF_cons, if_pos h]
  unfold pullR
  rw [if_neg (by simp), if_neg (by simp [hon]), if_neg (by simp [h1]), h2]
end Go.Proofs.YtlbfioknkagboaaDoor
