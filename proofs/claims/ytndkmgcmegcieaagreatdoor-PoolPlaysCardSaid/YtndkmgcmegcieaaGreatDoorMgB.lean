/-
  MATHS OF ROOTS, of one over a root, of a next time. No program is named.
-/
import Derived.Test.YtndkmgcmegcieaaGreatDoorRows
import Derived.Below
import Derived.Test.YtndkmgcmegcieaaGreatDoorMgA
namespace Go.Proofs.YtndkmgcmegcieaaGreatDoor
set_option linter.unusedVariables false
set_option linter.unusedSimpArgs false
theorem sq_le {a b : Nat} (h : a ≤ b) : a * a ≤ b * b := Nat.mul_le_mul h h
theorem sq_lt {a b : Nat} (h : a < b) : a * a < b * b := Nat.mul_lt_mul'' h h
theorem le_sq {a b : Nat} (h : a * a ≤ b * b) : a ≤ b := by
 rcases Nat.lt_or_ge b a with h1 | h1
 ·have := sq_lt h1; omega
 ·exact h1
theorem lt_sq {a b : Nat} (h : a * a < b * b) : a < b := by
 rcases Nat.lt_or_ge a b with h1 | h1
 ·exact h1
 ·have := sq_le h1; omega
def IsRoot (n r : Nat) : Prop := r * r ≤ n ∧ n < (r + 1) * (r + 1)
theorem root_one {n r s : Nat} (h1 : IsRoot n r) (h2 : IsRoot n s) : r = s := by
 have a := lt_sq (Nat.lt_of_le_of_lt h1.1 h2.2)
 have b := lt_sq (Nat.lt_of_le_of_lt h2.1 h1.2)
 omega
def RootAt (n x k : Nat) : Prop := x * x ≤ n ∧ n < (x + 2 ^ k) * (x + 2 ^ k) ∧ x + 2 ^ k ≤ 4294967296
theorem root_start {n : Nat} (h : n < 18446744073709551616) : RootAt n 0 32 := ⟨by omega, by rw [Nat.zero_add]; exact h, by decide⟩
theorem root_yes {n x k : Nat} (h : RootAt n x (k + 1)) (hy : (x + 2 ^ k) * (x + 2 ^ k) ≤ n) : RootAt n (x + 2 ^ k) k := by
 have e : x + 2 ^ k + 2 ^ k = x + 2 ^ (k + 1) := by rw [Nat.pow_succ]; omega
 exact ⟨hy, by rw [e]; exact h.2.1, by rw [e]; exact h.2.2⟩
theorem root_no {n x k : Nat} (h : RootAt n x (k + 1)) (hy : n < (x + 2 ^ k) * (x + 2 ^ k)) : RootAt n x k :=
 ⟨h.1, hy, by have := h.2.2; rw [Nat.pow_succ] at this; omega⟩
theorem root_end {n x : Nat} (h : RootAt n x 0) : IsRoot n x := ⟨h.1, h.2.1⟩
theorem root_fits {n x k : Nat} (h : RootAt n x (k + 1)) : x + 2 ^ k ≤ 4294967295 ∧ (x + 2 ^ k) * (x + 2 ^ k) < 18446744073709551616 := by
 have h1 := h.2.2
 have h2 := Nat.two_pow_pos k
 rw [Nat.pow_succ] at h1
 have h3 : x + 2 ^ k ≤ 4294967295 := by omega
 exact ⟨h3, Nat.lt_of_le_of_lt (sq_le h3) (by decide)⟩
def IsInv (c x : Nat) : Prop := x * x * c ≤ 18446744073709551616 ∧ 18446744073709551616 < (x + 1) * (x + 1) * c
theorem inv_of_root {c x : Nat} (hc : 0 < c) (h : IsRoot (18446744073709551616 / c) x) : IsInv c x :=
 ⟨(Nat.le_div_iff_mul_le hc).1 h.1, (Nat.div_lt_iff_lt_mul hc).1 h.2⟩
theorem inv_1 : IsInv 1 4294967296 := ⟨by decide, by decide⟩
theorem quo_64 {c : Nat} (h1 : 1 < c) (h2 : c ≤ 4294967295) : 18446744073709551616 / c = if 18446744073709551615 % c = c - 1 then 18446744073709551615 / c + 1 else 18446744073709551615 / c := by
 have e := Nat.div_add_mod 18446744073709551615 c
 have hm := Nat.mod_lt 18446744073709551615 (show 0 < c by omega)
 split
 ·rename_i h
  rw [Nat.div_eq_of_lt_le]
  ·rw [Nat.add_mul, Nat.one_mul, Nat.mul_comm]; omega
  ·rw [Nat.add_mul, Nat.add_mul, Nat.one_mul, Nat.mul_comm]; omega
 ·rename_i h
  rw [Nat.div_eq_of_lt_le]
  ·rw [Nat.mul_comm]; omega
  ·rw [Nat.add_mul, Nat.one_mul, Nat.mul_comm]; omega
theorem inv_le {c x : Nat} (hc : 0 < c) (h : IsInv c x) : x ≤ 4294967296 := by
 have h1 : x * x * 1 ≤ x * x * c := Nat.mul_le_mul_left _ hc
 have h2 : x * x ≤ 4294967296 * 4294967296 := by have := h.1; omega
 exact le_sq h2
def rootN : Nat → Nat
 | 0 => 0
 | n + 1 => if (rootN n + 1) * (rootN n + 1) ≤ n + 1 then rootN n + 1 else rootN n
theorem rootN_is : ∀ n : Nat, IsRoot n (rootN n)
 | 0 => ⟨Nat.le_refl _, by decide⟩
 | n + 1 => by
  obtain ⟨h1, h2⟩ := rootN_is n
  unfold rootN
  split
  ·rename_i h
   refine ⟨h, ?_⟩
   have h3 : (rootN n + 1) * (rootN n + 1) < (rootN n + 1 + 1) * (rootN n + 1 + 1) := sq_lt (by omega)
   omega
  ·rename_i h
   exact ⟨by omega, by omega⟩
theorem rootN_one {n r : Nat} (h : IsRoot n r) : rootN n = r := root_one (rootN_is n) h
def invN (c : Nat) : Nat := if c ≤ 1 then 4294967296 else rootN (18446744073709551616 / c)
theorem invN_is (c : Nat) : IsInv (max c 1) (invN c) := by
 unfold invN
 split
 ·rename_i h
  rw [show max c 1 = 1 by omega]; exact inv_1
 ·rename_i h
  rw [show max c 1 = c by omega]
  exact inv_of_root (by omega) (rootN_is _)
theorem invN_le (c : Nat) : invN c ≤ 4294967296 := inv_le (by omega) (invN_is c)
def clampR (n low high : Int) : Int := min (max n low) high
theorem clamp_in {n low high : Int} (h : low ≤ high) : low ≤ clampR n low high ∧ clampR n low high ≤ high := by unfold clampR; omega
def stepR (i x : Nat) : Nat := i * x / 4294967296
theorem step_le {i x : Nat} (hx : x ≤ 4294967296) : stepR i x ≤ i := by
 unfold stepR
 have : i * x ≤ i * 4294967296 := Nat.mul_le_mul_left _ hx
 omega
def nextR (at_ interval : Int) (x : Nat) : Int := clampR at_ 0 1125899906842624 + (stepR (clampR interval 0 1073741824).toNat x : Nat)
def nextN (at_ interval : Int) (c : Nat) : Int := nextR at_ interval (invN c)
theorem next_in {a i : Int} {x : Nat} (hx : x ≤ 4294967296) : clampR a 0 1125899906842624 ≤ nextR a i x ∧ nextR a i x ≤ clampR a 0 1125899906842624 + 1073741824 := by
 unfold nextR
 have h1 := step_le (i := (clampR i 0 1073741824).toNat) hx
 have h2 := clamp_in (n := i) (low := 0) (high := 1073741824) (by decide)
 omega
end Go.Proofs.YtndkmgcmegcieaaGreatDoor
/-
  MATHS OF WHAT WAITED TOO LONG: a pull as a function of the state and of the queue; what it keeps. No program is named.
-/
namespace Go.Proofs.YtndkmgcmegcieaaGreatDoor
set_option linter.unusedVariables false
set_option linter.unusedSimpArgs false
structure It where
 at_ : Int
 len : Int
structure Cd where
 first : Int
 drop : Int
 count : Nat
 last : Nat
 on : Bool
structure Pl where
 now : Int
 target : Int
 interval : Int
def lookB (bytes : Int) : List It → Int
 | [] => bytes
 | x :: _ => bytes - max x.len 0
def soonB (q : Pl) (bytes : Int) (x : It) : Bool := decide (q.now - x.at_ < q.target) || decide (bytes - max x.len 0 ≤ 1514)
def lookF (q : Pl) (first bytes : Int) : List It → Int
 | [] => 0
 | x :: _ => if soonB q bytes x = true then 0 else if first = 0 then q.now + q.interval else first
def lookL (q : Pl) (first bytes : Int) : List It → Bool
 | [] => false
 | x :: _ => !soonB q bytes x && decide (first ≠ 0) && decide (first ≤ q.now)
def more (c : Nat) : Nat := if c < 4294967295 then c + 1 else c
def dropsR (q : Pl) (n : Nat) (c : Cd) (bytes : Int) : List It → Cd × Nat × Bool
 | [] => (c, n, false)
 | x :: r =>
  if c.drop ≤ q.now then
   if lookL q c.first bytes r = true then
    dropsR q (n + 1) ⟨lookF q c.first bytes r, nextN c.drop q.interval (more c.count), more c.count, c.last, true⟩ (lookB bytes r) r
   else (⟨lookF q c.first bytes r, c.drop, more c.count, c.last, false⟩, n + 1, !r.isEmpty)
  else (c, n, true)
def begins (q : Pl) (c : Cd) : Nat := if (c.count + 4294967296 - c.last) % 4294967296 ≤ 1 ∨ 16 * q.interval ≤ q.now - c.drop then 1 else (c.count + 4294967296 - c.last) % 4294967296
def pullR (q : Pl) (c : Cd) (bytes : Int) (l : List It) : Cd × Nat × Bool :=
 if l.isEmpty = true then (⟨0, c.drop, c.count, c.last, false⟩, 0, false)
 else if c.on = true then
  if lookL q c.first bytes l = true then dropsR q 0 ⟨lookF q c.first bytes l, c.drop, c.count, c.last, true⟩ (lookB bytes l) l
  else (⟨lookF q c.first bytes l, c.drop, c.count, c.last, false⟩, 0, true)
 else if lookL q c.first bytes l = true then
  (⟨lookF q (lookF q c.first bytes l) (lookB bytes l) l.tail, nextN q.now q.interval (begins q c), begins q c, begins q c, true⟩, 1, !l.tail.isEmpty)
 else (⟨lookF q c.first bytes l, c.drop, c.count, c.last, false⟩, 0, true)
theorem lookF_cons (q : Pl) (first bytes : Int) (x : It) (r : List It) : lookF q first bytes (x :: r) = if soonB q bytes x = true then 0 else if first = 0 then q.now + q.interval else first := rfl
theorem lookL_cons (q : Pl) (first bytes : Int) (x : It) (r : List It) : lookL q first bytes (x :: r) = (!soonB q bytes x && decide (first ≠ 0) && decide (first ≤ q.now)) := rfl
theorem pull_none (q : Pl) (c : Cd) (bytes : Int) : pullR q c bytes [] = (⟨0, c.drop, c.count, c.last, false⟩, 0, false) := rfl
theorem look_late {q : Pl} {first bytes : Int} {l : List It} (h : lookL q first bytes l = true) : l ≠ [] ∧ lookF q first bytes l = first ∧ first ≠ 0 ∧ first ≤ q.now := by
 cases l with
 | nil => cases h
 | cons x r =>
  rw [lookL_cons] at h
  simp only [Bool.and_eq_true, Bool.not_eq_true', decide_eq_true_eq] at h
  refine ⟨by simp, ?_, h.1.2, h.2⟩
  rw [lookF_cons, if_neg (by rw [h.1.1]; decide), if_neg h.1.2]
theorem drops_bound (q : Pl) : ∀ (l : List It) (n : Nat) (c : Cd) (bytes : Int), l ≠ [] → n ≤ (dropsR q n c bytes l).2.1 ∧ (dropsR q n c bytes l).2.1 ≤ n + l.length ∧
 ((dropsR q n c bytes l).2.2 = true → (dropsR q n c bytes l).2.1 < n + l.length) ∧ ((dropsR q n c bytes l).2.2 = false → (dropsR q n c bytes l).2.1 = n + l.length ∧ (dropsR q n c bytes l).1.on = false)
 | [], n, c, bytes, h => absurd rfl h
 | x :: r, n, c, bytes, _ => by
  unfold dropsR
  split
  ·split
   ·rename_i h1 h2
    obtain ⟨a1, a2, a3, a4⟩ := drops_bound q r (n + 1) ⟨lookF q c.first bytes r, nextN c.drop q.interval (more c.count), more c.count, c.last, true⟩ (lookB bytes r) (look_late h2).1
    simp only [List.length_cons]
    refine ⟨by omega, by omega, fun h => by have := a3 h; omega, fun h => ?_⟩
    obtain ⟨b1, b2⟩ := a4 h
    exact ⟨by omega, b2⟩
   ·simp only [List.length_cons]
    refine ⟨by omega, by omega, fun h => ?_, fun h => ⟨?_, trivial⟩⟩
    ·cases r with
     | nil => cases h
     | cons y r => simp
    ·cases r with
     | nil => rfl
     | cons y r => cases h
  ·simp only [List.length_cons]
   exact ⟨by omega, by omega, fun _ => by omega, fun h => by cases h⟩
theorem pull_bound (q : Pl) (c : Cd) (bytes : Int) (l : List It) : (pullR q c bytes l).2.1 ≤ l.length ∧ ((pullR q c bytes l).2.2 = true → (pullR q c bytes l).2.1 < l.length) ∧ ((pullR q c bytes l).2.2 = false → (pullR q c bytes l).2.1 = l.length) ∧
 ((pullR q c bytes l).2.2 = true ∨ (pullR q c bytes l).1.on = false ∨ 0 < (pullR q c bytes l).2.1) := by
 cases l with
 | nil =>
  rw [pull_none]
  exact ⟨Nat.le_refl _, fun h => (by cases h), fun _ => rfl, .inr (.inl rfl)⟩
 | cons x r =>
  unfold pullR
  rw [if_neg (by simp)]
  split
  ·split
   ·rename_i h1 h2
    obtain ⟨a1, a2, a3, a4⟩ := drops_bound q (x :: r) 0 ⟨lookF q c.first bytes (x :: r), c.drop, c.count, c.last, true⟩ (lookB bytes (x :: r)) (by simp)
    refine ⟨by omega, fun h => by have := a3 h; omega, fun h => by have := (a4 h).1; omega, ?_⟩
    cases hb : (dropsR q 0 ⟨lookF q c.first bytes (x :: r), c.drop, c.count, c.last, true⟩ (lookB bytes (x :: r)) (x :: r)).2.2
    ·exact .inr (.inl (a4 hb).2)
    ·exact .inl rfl
   ·exact ⟨by simp, fun _ => by simp, fun h => (by cases h), .inl rfl⟩
  ·split
   ·cases r with
    | nil => exact ⟨by simp, fun h => (by cases h), fun _ => rfl, .inr (.inr (by simp))⟩
    | cons y r => exact ⟨by simp, fun _ => by simp, fun h => (by cases h), .inl rfl⟩
   ·exact ⟨by simp, fun _ => by simp, fun h => (by cases h), .inl rfl⟩
end Go.Proofs.YtndkmgcmegcieaaGreatDoor
/-
  MATHS OF WHAT WAITED TOO LONG: single pulls, said whole: to wait, to hold, to begin, to keep, to drop one more, to end. No program is named.
-/
namespace Go.Proofs.YtndkmgcmegcieaaGreatDoor
set_option linter.unusedVariables false
set_option linter.unusedSimpArgs false
section
variable {q : Pl} {c : Cd} {bytes : Int} {x y : It} {r : List It}
end
section
variable {i s : Int}
end
end Go.Proofs.YtndkmgcmegcieaaGreatDoor
/-
  MATHS OF A QUEUE OF FLOWS: what is put, what a turn does, to take as a relation; that it is one; what it keeps; that it ends. No program is named.
-/
namespace Go.Proofs.YtndkmgcmegcieaaGreatDoor
set_option linter.unusedVariables false
set_option linter.unusedSimpArgs false
structure Pk where
 id : Int
 flow : Int
 tid : Int
 at_ : Int
 body : List Int
structure Fl where
 pk : List Pk
 df : Int
 cd : Cd
structure Qu where
 fl : Nat → Fl
 fresh : List Nat
 elder : List Nat
def bytesF (l : List Pk) : Int := (l.map fun p => (p.body.length : Int)).sum
def itemsF (l : List Pk) : List It := l.map fun p => ⟨p.at_, p.body.length⟩
theorem bytesF_snoc (l : List Pk) (p : Pk) : bytesF (l ++ [p]) = bytesF l + p.body.length := by simp [bytesF]
theorem bytesF_cons (p : Pk) (l : List Pk) : bytesF (p :: l) = p.body.length + bytesF l := by simp [bytesF]
theorem itemsF_len (l : List Pk) : (itemsF l).length = l.length := by simp [itemsF]
def setF (f : Nat → Fl) (b : Nat) (x : Fl) : Nat → Fl := fun k => if k = b then x else f k
theorem setF_same (f : Nat → Fl) (b : Nat) (x : Fl) : setF f b x b = x := by simp [setF]
theorem setF_other (f : Nat → Fl) {b k : Nat} (x : Fl) (h : k ≠ b) : setF f b x k = f k := by simp [setF, h]
def delL (l : List Nat) (b : Nat) : List Nat := l.filter fun k => k != b
theorem mem_del {l : List Nat} {b k : Nat} : k ∈ delL l b ↔ k ∈ l ∧ k ≠ b := by simp [delL]
theorem del_not {l : List Nat} {b : Nat} (h : b ∉ l) : delL l b = l := by
 unfold delL
 rw [List.filter_eq_self]
 intro k hk
 simp only [bne_iff_ne, ne_eq]
 exact fun e => h (e ▸ hk)
theorem del_head {r : List Nat} {b : Nat} (h : b ∉ r) : delL (b :: r) b = r := by
 have : delL (b :: r) b = delL r b := by simp [delL]
 rw [this, del_not h]
def putQ (bk : Int → Nat) (q : Qu) (p : Pk) : Qu :=
 if bk p.flow ∈ q.fresh ∨ bk p.flow ∈ q.elder then ⟨setF q.fl (bk p.flow) ⟨(q.fl (bk p.flow)).pk ++ [p], (q.fl (bk p.flow)).df, (q.fl (bk p.flow)).cd⟩, q.fresh, q.elder⟩
 else ⟨setF q.fl (bk p.flow) ⟨(q.fl (bk p.flow)).pk ++ [p], 300, (q.fl (bk p.flow)).cd⟩, q.fresh ++ [bk p.flow], q.elder⟩
def firstQ (q : Qu) : Option (Nat × Bool) :=
 match q.fresh with
 | b :: _ => some (b, true)
 | [] => match q.elder with
  | b :: _ => some (b, false)
  | [] => none
def turnQ (q : Qu) (b : Nat) : Qu := ⟨setF q.fl b ⟨(q.fl b).pk, (q.fl b).df + 300, (q.fl b).cd⟩, delL q.fresh b, delL q.elder b ++ [b]⟩
def pullF (P : Pl) (x : Fl) : Cd × Nat × Bool := pullR P x.cd (bytesF x.pk) (itemsF x.pk)
def goneQ (q : Qu) (b : Nat) (nw : Bool) (c : Cd) (n : Nat) : Qu :=
 ⟨setF q.fl b ⟨(q.fl b).pk.drop n, (q.fl b).df, c⟩, delL q.fresh b, if nw = true ∧ q.elder ≠ [] then delL q.elder b ++ [b] else delL q.elder b⟩
def lenO : Option Pk → Int
 | none => 0
 | some p => p.body.length
def tookQ (q : Qu) (b : Nat) (c : Cd) (n : Nat) : Qu :=
 ⟨setF q.fl b ⟨(q.fl b).pk.drop (n + 1), (q.fl b).df - lenO ((q.fl b).pk[n]?), c⟩, q.fresh, q.elder⟩
inductive Takes (P : Pl) : Qu → List Pk → Option Pk → List Pk → Qu → Prop
 | none {q ds} : firstQ q = none → Takes P q ds none ds q
 | turn {q ds b nw r ds' q'} : firstQ q = some (b, nw) → (q.fl b).df ≤ 0 → Takes P (turnQ q b) ds r ds' q' → Takes P q ds r ds' q'
 | gone {q ds b nw c n r ds' q'} : firstQ q = some (b, nw) → 0 < (q.fl b).df → pullF P (q.fl b) = (c, n, false) → Takes P (goneQ q b nw c n) (ds ++ (q.fl b).pk.take n) r ds' q' → Takes P q ds r ds' q'
 | took {q ds b nw c n} : firstQ q = some (b, nw) → 0 < (q.fl b).df → pullF P (q.fl b) = (c, n, true) → Takes P q ds ((q.fl b).pk[n]?) (ds ++ (q.fl b).pk.take n) (tookQ q b c n)
theorem takes_one {P : Pl} {q : Qu} {ds : List Pk} {r : Option Pk} {ds1 : List Pk} {q1 : Qu} (h : Takes P q ds r ds1 q1) : ∀ {s : Option Pk} {ds2 : List Pk} {q2 : Qu}, Takes P q ds s ds2 q2 → r = s ∧ ds1 = ds2 ∧ q1 = q2 := by
 induction h with
 | none h1 =>
  intro s ds2 q2 h2
  cases h2 with
  | none _ => exact ⟨rfl, rfl, rfl⟩
  | turn a _ _ => rw [h1] at a; cases a
  | gone a _ _ _ => rw [h1] at a; cases a
  | took a _ _ => rw [h1] at a; cases a
 | turn h1 hd _ ih =>
  intro s ds2 q2 h2
  cases h2 with
  | none a => rw [h1] at a; cases a
  | turn a _ t => rw [h1] at a; cases a; exact ih t
  | gone a b _ _ => rw [h1] at a; cases a; omega
  | took a b _ => rw [h1] at a; cases a; omega
 | gone h1 hd hp _ ih =>
  intro s ds2 q2 h2
  cases h2 with
  | none a => rw [h1] at a; cases a
  | turn a b _ => rw [h1] at a; cases a; omega
  | gone a _ p t => rw [h1] at a; cases a; rw [hp] at p; cases p; exact ih t
  | took a _ p => rw [h1] at a; cases a; rw [hp] at p; cases p
 | took h1 hd hp =>
  intro s ds2 q2 h2
  cases h2 with
  | none a => rw [h1] at a; cases a
  | turn a b _ => rw [h1] at a; cases a; omega
  | gone a _ p _ => rw [h1] at a; cases a; rw [hp] at p; cases p
  | took a _ p => rw [h1] at a; cases a; rw [hp] at p; cases p; exact ⟨rfl, rfl, rfl⟩
structure InvQ (bk : Int → Nat) (q : Qu) : Prop where
 nodup : (q.fresh ++ q.elder).Nodup
 lt : ∀ b ∈ q.fresh ++ q.elder, b < 16
 listed : ∀ b, (q.fl b).pk ≠ [] → b ∈ q.fresh ++ q.elder
 own : ∀ b, ∀ p ∈ (q.fl b).pk, bk p.flow = b
theorem firstQ_mem {q : Qu} {b : Nat} {nw : Bool} (h : firstQ q = some (b, nw)) : b ∈ q.fresh ++ q.elder := by
 unfold firstQ at h
 split at h
 ·rename_i c r e
  cases h
  rw [e]; simp
 ·rename_i e
  split at h
  ·rename_i c r e2
   cases h
   rw [e2]; simp
  ·cases h
theorem firstQ_none {q : Qu} (h : firstQ q = none) : q.fresh = [] ∧ q.elder = [] := by
 unfold firstQ at h
 split at h
 ·cases h
 ·rename_i e
  split at h
  ·cases h
  ·rename_i e2
   exact ⟨e, e2⟩
theorem firstQ_new {q : Qu} {b : Nat} (h : firstQ q = some (b, true)) : ∃ r, q.fresh = b :: r := by
 unfold firstQ at h
 split at h
 ·rename_i c r e
  cases h
  exact ⟨r, e⟩
 ·split at h <;> cases h
theorem firstQ_old {q : Qu} {b : Nat} (h : firstQ q = some (b, false)) : q.fresh = [] ∧ ∃ r, q.elder = b :: r := by
 unfold firstQ at h
 split at h
 ·cases h
 ·rename_i e
  split at h
  ·rename_i c r e2
   cases h
   exact ⟨e, r, e2⟩
  ·cases h
theorem turn_lists {q : Qu} {b : Nat} (hn : (q.fresh ++ q.elder).Nodup) (hb : b ∈ q.fresh ++ q.elder) :
 (delL q.fresh b ++ (delL q.elder b ++ [b])).Nodup ∧ ∀ k, k ∈ delL q.fresh b ++ (delL q.elder b ++ [b]) ↔ k ∈ q.fresh ++ q.elder := by
 have e : delL q.fresh b ++ delL q.elder b = delL (q.fresh ++ q.elder) b := by simp [delL]
 constructor
 ·rw [← List.append_assoc, e, List.nodup_append]
  refine ⟨hn.filter _, by simp, fun x hx y hy => ?_⟩
  rw [List.mem_singleton.1 hy]
  exact (mem_del.1 hx).2
 ·intro k
  rw [← List.append_assoc, e, List.mem_append, mem_del, List.mem_singleton]
  constructor
  ·rintro (h | rfl)
   ·exact h.1
   ·exact hb
  ·intro h
   by_cases hk : k = b
   ·exact .inr hk
   ·exact .inl ⟨h, hk⟩
theorem drop_lists {q : Qu} {b : Nat} (hn : (q.fresh ++ q.elder).Nodup) :
 (delL q.fresh b ++ delL q.elder b).Nodup ∧ ∀ k, k ∈ delL q.fresh b ++ delL q.elder b ↔ k ∈ q.fresh ++ q.elder ∧ k ≠ b := by
 have e : delL q.fresh b ++ delL q.elder b = delL (q.fresh ++ q.elder) b := by simp [delL]
 rw [e]
 exact ⟨hn.filter _, fun k => mem_del⟩
theorem inv_put {bk : Int → Nat} {q : Qu} {p : Pk} (hb : ∀ f, bk f < 16) (h : InvQ bk q) : InvQ bk (putQ bk q p) := by
 unfold putQ
 split
 ·rename_i hm
  refine ⟨h.nodup, h.lt, fun b hp => ?_, fun b x hx => ?_⟩
  ·by_cases e : b = bk p.flow
   ·rw [e, List.mem_append]; exact hm
   ·simp only [setF_other _ _ e] at hp
    exact h.listed b hp
  ·by_cases e : b = bk p.flow
   ·subst e
    simp only [setF_same, List.mem_append, List.mem_singleton] at hx
    rcases hx with hx | rfl
    ·exact h.own _ x hx
    ·rfl
   ·simp only [setF_other _ _ e] at hx
    exact h.own b x hx
 ·rename_i hm
  have hm' : bk p.flow ∉ q.fresh ∧ bk p.flow ∉ q.elder := ⟨fun h => hm (.inl h), fun h => hm (.inr h)⟩
  refine ⟨?_, fun b hx => ?_, fun b hp => ?_, fun b x hx => ?_⟩
  ·have := h.nodup
   rw [List.nodup_append] at this ⊢
   refine ⟨?_, this.2.1, fun a ha c hc => ?_⟩
   ·rw [List.nodup_append]
    refine ⟨this.1, by simp, fun a ha c hc => ?_⟩
    rw [List.mem_singleton.1 hc]
    exact fun e => hm'.1 (e ▸ ha)
   ·rcases List.mem_append.1 ha with ha | ha
    ·exact this.2.2 a ha c hc
    ·rw [List.mem_singleton.1 ha]
     exact fun e => hm'.2 (e ▸ hc)
  ·simp only [List.mem_append, List.mem_singleton] at hx
   rcases hx with (hx | rfl) | hx
   ·exact h.lt b (List.mem_append_left _ hx)
   ·exact hb _
   ·exact h.lt b (List.mem_append_right _ hx)
  ·by_cases e : b = bk p.flow
   ·simp [e]
   ·simp only [setF_other _ _ e] at hp
    have := h.listed b hp
    simp only [List.mem_append, List.mem_singleton] at this ⊢
    rcases this with h1 | h1
    ·exact .inl (.inl h1)
    ·exact .inr h1
  ·by_cases e : b = bk p.flow
   ·subst e
    simp only [setF_same, List.mem_append, List.mem_singleton] at hx
    rcases hx with hx | rfl
    ·exact h.own _ x hx
    ·rfl
   ·simp only [setF_other _ _ e] at hx
    exact h.own b x hx
theorem inv_turn {bk : Int → Nat} {q : Qu} {b : Nat} (h : InvQ bk q) (hb : b ∈ q.fresh ++ q.elder) : InvQ bk (turnQ q b) := by
 obtain ⟨t1, t2⟩ := turn_lists h.nodup hb
 refine ⟨t1, fun k hk => h.lt k ((t2 k).1 hk), fun k hk => (t2 k).2 (h.listed k ?_), fun k p hp => h.own k p ?_⟩
 ·by_cases e : k = b
  ·subst e; simpa [turnQ, setF_same] using hk
  ·simpa [turnQ, setF_other _ _ e] using hk
 ·by_cases e : k = b
  ·subst e; simpa [turnQ, setF_same] using hp
  ·simpa [turnQ, setF_other _ _ e] using hp
theorem inv_gone {bk : Int → Nat} {q : Qu} {b : Nat} {nw : Bool} {c : Cd} {n : Nat} (h : InvQ bk q) (hb : b ∈ q.fresh ++ q.elder) (hn : (q.fl b).pk.length ≤ n) : InvQ bk (goneQ q b nw c n) := by
 have hd : (q.fl b).pk.drop n = [] := List.drop_eq_nil_of_le hn
 have hown : ∀ k, ∀ p ∈ ((goneQ q b nw c n).fl k).pk, bk p.flow = k := by
  intro k p hp
  by_cases e : k = b
  ·subst e
   simp [goneQ, setF_same, hd] at hp
  ·simp only [goneQ, setF_other _ _ e] at hp
   exact h.own k p hp
 have hne : ∀ k, ((goneQ q b nw c n).fl k).pk ≠ [] → k ∈ q.fresh ++ q.elder ∧ k ≠ b := by
  intro k hk
  by_cases e : k = b
  ·subst e
   simp [goneQ, setF_same, hd] at hk
  ·simp only [goneQ, setF_other _ _ e] at hk
   exact ⟨h.listed k hk, e⟩
 by_cases hc : nw = true ∧ q.elder ≠ []
 ·obtain ⟨t1, t2⟩ := turn_lists h.nodup hb
  have ee : (goneQ q b nw c n).elder = delL q.elder b ++ [b] := by simp only [goneQ]; rw [if_pos hc]
  refine ⟨by rw [ee]; exact t1, fun k hk => ?_, fun k hk => ?_, hown⟩
  ·rw [ee] at hk; exact h.lt k ((t2 k).1 hk)
  ·rw [ee]; exact (t2 k).2 (hne k hk).1
 ·obtain ⟨t1, t2⟩ := drop_lists (q := q) (b := b) h.nodup
  have ee : (goneQ q b nw c n).elder = delL q.elder b := by simp only [goneQ]; rw [if_neg hc]
  refine ⟨by rw [ee]; exact t1, fun k hk => ?_, fun k hk => ?_, hown⟩
  ·rw [ee] at hk; exact h.lt k ((t2 k).1 hk).1
  ·rw [ee]; exact (t2 k).2 (hne k hk)
theorem inv_took {bk : Int → Nat} {q : Qu} {b : Nat} {c : Cd} {n : Nat} (h : InvQ bk q) : InvQ bk (tookQ q b c n) := by
 refine ⟨h.nodup, h.lt, fun k hk => h.listed k ?_, fun k p hp => h.own k p ?_⟩
 ·by_cases e : k = b
  ·subst e
   simp only [tookQ, setF_same] at hk
   exact fun e => hk (by rw [e]; simp)
  ·simpa [tookQ, setF_other _ _ e] using hk
 ·by_cases e : k = b
  ·subst e
   simp only [tookQ, setF_same] at hp
   exact List.mem_of_mem_drop hp
  ·simpa [tookQ, setF_other _ _ e] using hp
theorem pullF_bound {P : Pl} {x : Fl} {c : Cd} {n : Nat} {is : Bool} (h : pullF P x = (c, n, is)) : (is = true → n < x.pk.length) ∧ (is = false → n = x.pk.length) := by
 have hb := pull_bound P x.cd (bytesF x.pk) (itemsF x.pk)
 unfold pullF at h
 rw [h, itemsF_len] at hb
 exact ⟨hb.2.1, hb.2.2.1⟩
def outOf (bk : Int → Nat) (b : Nat) (l : List Pk) : List Pk := l.filter fun p => bk p.flow == b
theorem outOf_append (bk : Int → Nat) (b : Nat) (l r : List Pk) : outOf bk b (l ++ r) = outOf bk b l ++ outOf bk b r := by simp [outOf]
theorem outOf_all {bk : Int → Nat} {b : Nat} {l : List Pk} (h : ∀ p ∈ l, bk p.flow = b) : outOf bk b l = l := by
 unfold outOf; rw [List.filter_eq_self]; intro p hp; simpa using h p hp
theorem outOf_none {bk : Int → Nat} {b k : Nat} {l : List Pk} (h : ∀ p ∈ l, bk p.flow = b) (hk : k ≠ b) : outOf bk k l = [] := by
 unfold outOf; rw [List.filter_eq_nil_iff]; intro p hp; simp [h p hp]; exact fun e => hk e.symm
theorem takes_keep {bk : Int → Nat} {P : Pl} {q : Qu} {ds : List Pk} {r : Option Pk} {ds' : List Pk} {q' : Qu} (h : Takes P q ds r ds' q') (hI : InvQ bk q) :
 InvQ bk q' ∧ (∀ b, outOf bk b (ds' ++ r.toList) ++ (q'.fl b).pk = outOf bk b ds ++ (q.fl b).pk) ∧ (r = none → ∀ b, (q'.fl b).pk = []) := by
 induction h with
 | @none q ds h1 =>
  obtain ⟨e1, e2⟩ := firstQ_none h1
  refine ⟨hI, fun b => by simp, fun _ b => ?_⟩
  by_cases hb : (q.fl b).pk = []
  ·exact hb
  ·have := hI.listed b hb
   rw [e1, e2] at this
   cases this
 | @turn q ds b nw r ds' q' h1 hd ht ih =>
  obtain ⟨i1, i2, i3⟩ := ih (inv_turn hI (firstQ_mem h1))
  refine ⟨i1, fun k => ?_, i3⟩
  rw [i2 k]
  by_cases e : k = b
  ·subst e; simp [turnQ, setF_same]
  ·simp [turnQ, setF_other _ _ e]
 | @gone q ds b nw c n r ds' q' h1 hd hp ht ih =>
  have hn := (pullF_bound hp).2 rfl
  obtain ⟨i1, i2, i3⟩ := ih (inv_gone hI (firstQ_mem h1) (by omega))
  refine ⟨i1, fun k => ?_, i3⟩
  rw [i2 k, outOf_append]
  by_cases e : k = b
  ·subst e
   simp only [goneQ, setF_same]
   rw [outOf_all (fun p hp => hI.own k p (List.mem_of_mem_take hp)), List.append_assoc, List.take_append_drop]
  ·simp only [goneQ, setF_other _ _ e]
   rw [outOf_none (fun p hp => hI.own b p (List.mem_of_mem_take hp)) e, List.append_nil]
 | @took q ds b nw c n h1 hd hp =>
  have hn := (pullF_bound hp).1 rfl
  refine ⟨inv_took hI, fun k => ?_, fun h => ?_⟩
  ·rw [outOf_append, outOf_append, List.getElem?_eq_getElem hn]
   simp only [Option.toList_some]
   by_cases e : k = b
   ·subst e
    simp only [tookQ, setF_same]
    rw [outOf_all (fun p hp => hI.own k p (List.mem_of_mem_take hp)), outOf_all (l := [(q.fl k).pk[n]]) (fun p hp => hI.own k p (by rw [List.mem_singleton.1 hp]; exact List.getElem_mem hn))]
    rw [List.append_assoc, List.append_assoc, ← List.append_assoc (List.take n _), ← List.take_succ_eq_append_getElem hn, List.take_append_drop]
   ·simp only [tookQ, setF_other _ _ e]
    rw [outOf_none (fun p hp => hI.own b p (List.mem_of_mem_take hp)) e, outOf_none (l := [(q.fl b).pk[n]]) (fun p hp => hI.own b p (by rw [List.mem_singleton.1 hp]; exact List.getElem_mem hn)) e]
    simp
  ·rw [List.getElem?_eq_getElem hn] at h; cases h
theorem len_buckets {bk : Int → Nat} (hb : ∀ f, bk f < 16) (l : List Pk) : l.length = ((List.range 16).map fun b => (outOf bk b l).length).sum := by
 induction l with
 | nil =>
  have : ∀ n : Nat, ((List.range n).map fun b => (outOf bk b ([] : List Pk)).length).sum = 0 := by
   intro n
   induction n with
   | zero => rfl
   | succ n ih => rw [List.range_succ, List.map_append, List.sum_append, ih]; simp [outOf]
  rw [this]; rfl
 | cons p r ih =>
  have key : ∀ n : Nat, ((List.range n).map fun b => (outOf bk b (p :: r)).length).sum = ((List.range n).map fun b => (outOf bk b r).length).sum + if bk p.flow < n then 1 else 0 := by
   intro n
   induction n with
   | zero => simp
   | succ n ihn =>
    rw [List.range_succ, List.map_append, List.sum_append, List.map_append, List.sum_append, ihn]
    simp only [List.map_cons, List.map_nil, List.sum_cons, List.sum_nil]
    by_cases e : bk p.flow = n
    ·have : (outOf bk n (p :: r)).length = (outOf bk n r).length + 1 := by simp [outOf, e]
     rw [this, if_neg (by omega), if_pos (by omega)]
     omega
    ·have : (outOf bk n (p :: r)).length = (outOf bk n r).length := by simp [outOf, e]
     rw [this]
     by_cases h : bk p.flow < n
     ·rw [if_pos h, if_pos (by omega)]; omega
     ·rw [if_neg h, if_neg (by omega)]; omega
  rw [key 16, if_pos (hb _), List.length_cons, ih]
def turns (d : Int) : Nat := if d ≤ 0 then (-d / 300).toNat + 1 else 0
theorem turns_next {d : Int} (h : d ≤ 0) : turns (d + 300) + 1 = turns d := by
 unfold turns
 rw [if_pos h]
 split <;> omega
def sumT (f : Nat → Nat) (n : Nat) : Nat := ((List.range n).map f).sum
theorem sumT_succ (f : Nat → Nat) (n : Nat) : sumT f (n + 1) = sumT f n + f n := by unfold sumT; rw [List.range_succ, List.map_append, List.sum_append]; simp
theorem sumT_same {f g : Nat → Nat} {n : Nat} (h : ∀ k, k < n → f k = g k) : sumT f n = sumT g n := by
 induction n with
 | zero => rfl
 | succ n ih => rw [sumT_succ, sumT_succ, ih fun k hk => h k (by omega), h n (by omega)]
theorem sumT_le {f g : Nat → Nat} {n : Nat} (h : ∀ k, k < n → f k ≤ g k) : sumT f n ≤ sumT g n := by
 induction n with
 | zero => exact Nat.le_refl _
 | succ n ih =>
  rw [sumT_succ, sumT_succ]
  have h1 := ih fun k hk => h k (by omega)
  have h2 := h n (by omega)
  omega
theorem sumT_one {f g : Nat → Nat} {n b : Nat} (hb : b < n) (h : ∀ k, k < n → k ≠ b → f k = g k) (e : f b + 1 = g b) : sumT f n + 1 = sumT g n := by
 induction n with
 | zero => omega
 | succ n ih =>
  rw [sumT_succ, sumT_succ]
  by_cases hn : b = n
  ·subst hn
   rw [sumT_same fun k hk => h k (by omega) (by omega)]
   omega
  ·have h1 := ih (by omega) fun k hk he => h k (by omega) he
   have h2 := h n (by omega) (fun e => hn e.symm)
   omega
def muT (q : Qu) (b : Nat) : Nat := if b ∈ q.fresh ++ q.elder then turns (q.fl b).df else 0
def mu (q : Qu) : Nat := sumT (muT q) 16 + (2 * q.fresh.length + q.elder.length)
theorem del_len {l : List Nat} {b : Nat} (hn : l.Nodup) (hb : b ∈ l) : (delL l b).length + 1 = l.length := by
 induction l with
 | nil => cases hb
 | cons c r ih =>
  rw [List.nodup_cons] at hn
  by_cases e : c = b
  ·subst e
   rw [del_head hn.1]; rfl
  ·have hb' : b ∈ r := by
    rcases List.mem_cons.1 hb with h | h
    ·exact absurd h.symm e
    ·exact h
   have : delL (c :: r) b = c :: delL r b := by simp [delL, e]
   rw [this, List.length_cons, List.length_cons, ih hn.2 hb']
theorem lists_apart {q : Qu} (h : (q.fresh ++ q.elder).Nodup) : q.fresh.Nodup ∧ q.elder.Nodup ∧ ∀ b, b ∈ q.fresh → b ∉ q.elder := by
 rw [List.nodup_append] at h
 exact ⟨h.1, h.2.1, fun b h1 h2 => h.2.2 b h1 b h2 rfl⟩
theorem muT_of {q q' : Qu} {k : Nat} (hm : k ∈ q'.fresh ++ q'.elder ↔ k ∈ q.fresh ++ q.elder) (hd : (q'.fl k).df = (q.fl k).df) : muT q' k = muT q k := by
 unfold muT
 rw [hd]
 by_cases h : k ∈ q.fresh ++ q.elder
 ·rw [if_pos h, if_pos (hm.2 h)]
 ·rw [if_neg h, if_neg (fun h' => h (hm.1 h'))]
theorem muT_in {q : Qu} {k : Nat} (h : k ∈ q.fresh ++ q.elder) : muT q k = turns (q.fl k).df := by unfold muT; rw [if_pos h]
theorem muT_out {q : Qu} {k : Nat} (h : ¬ k ∈ q.fresh ++ q.elder) : muT q k = 0 := by unfold muT; rw [if_neg h]
theorem mu_turn {bk : Int → Nat} {q : Qu} {b : Nat} {nw : Bool} (h : InvQ bk q) (h1 : firstQ q = some (b, nw)) (hd : (q.fl b).df ≤ 0) : mu (turnQ q b) < mu q := by
 have hb := firstQ_mem h1
 obtain ⟨t1, t2⟩ := turn_lists h.nodup hb
 obtain ⟨n1, n2, n3⟩ := lists_apart h.nodup
 have hs : sumT (muT (turnQ q b)) 16 + 1 = sumT (muT q) 16 := by
  refine sumT_one (h.lt b hb) (fun k _ hk => muT_of (t2 k) (by simp only [turnQ, setF_other _ _ hk])) ?_
  rw [muT_in (q := turnQ q b) ((t2 b).2 hb), muT_in hb]
  simp only [turnQ, setF_same]
  exact turns_next hd
 have hl : 2 * (delL q.fresh b).length + (delL q.elder b ++ [b]).length ≤ 2 * q.fresh.length + q.elder.length := by
  rw [List.length_append, List.length_singleton]
  rcases List.mem_append.1 hb with hf | he
  ·have := del_len n1 hf
   rw [del_not (n3 b hf)]
   omega
  ·have := del_len n2 he
   rw [del_not fun hf => n3 b hf he]
   omega
 unfold mu
 show sumT (muT (turnQ q b)) 16 + (2 * (delL q.fresh b).length + (delL q.elder b ++ [b]).length) < _
 omega
theorem mu_gone {bk : Int → Nat} {q : Qu} {b : Nat} {nw : Bool} {c : Cd} {n : Nat} (h : InvQ bk q) (h1 : firstQ q = some (b, nw)) : mu (goneQ q b nw c n) < mu q := by
 have hb := firstQ_mem h1
 obtain ⟨n1, n2, n3⟩ := lists_apart h.nodup
 have hdf : ∀ k, ((goneQ q b nw c n).fl k).df = (q.fl k).df := fun k => by
  by_cases e : k = b
  ·subst e; simp [goneQ, setF_same]
  ·simp [goneQ, setF_other _ _ e]
 by_cases hc : nw = true ∧ q.elder ≠ []
 ·obtain ⟨t1, t2⟩ := turn_lists h.nodup hb
  have ee : (goneQ q b nw c n).elder = delL q.elder b ++ [b] := by simp only [goneQ]; rw [if_pos hc]
  have hs : sumT (muT (goneQ q b nw c n)) 16 = sumT (muT q) 16 := by
   refine sumT_same fun k _ => muT_of ?_ (hdf k)
   rw [ee]
   exact t2 k
  obtain ⟨r, hr⟩ := firstQ_new (q := q) (b := b) (by rw [h1, hc.1])
  have hf : b ∈ q.fresh := by rw [hr]; simp
  have := del_len n1 hf
  unfold mu
  rw [hs, ee, List.length_append, List.length_singleton, del_not (n3 b hf)]
  show _ + (2 * (delL q.fresh b).length + _) < _
  omega
 ·obtain ⟨t1, t2⟩ := drop_lists (q := q) (b := b) h.nodup
  have ee : (goneQ q b nw c n).elder = delL q.elder b := by simp only [goneQ]; rw [if_neg hc]
  have hs : sumT (muT (goneQ q b nw c n)) 16 ≤ sumT (muT q) 16 := by
   refine sumT_le fun k _ => ?_
   by_cases hm : k ∈ q.fresh ++ q.elder ∧ k ≠ b
   ·rw [muT_in (q := goneQ q b nw c n) (by rw [ee]; exact (t2 k).2 hm), muT_in hm.1, hdf]; exact Nat.le_refl _
   ·rw [muT_out (q := goneQ q b nw c n) (by rw [ee]; exact fun h => hm ((t2 k).1 h))]; exact Nat.zero_le _
  have hl : 2 * (delL q.fresh b).length + (delL q.elder b).length + 1 ≤ 2 * q.fresh.length + q.elder.length := by
   rcases List.mem_append.1 hb with hf | he
   ·have := del_len n1 hf
    rw [del_not (n3 b hf)]
    omega
   ·have := del_len n2 he
    rw [del_not fun hf => n3 b hf he]
    omega
  unfold mu
  rw [ee]
  show _ + (2 * (delL q.fresh b).length + _) < _
  omega
theorem takes_is {bk : Int → Nat} (P : Pl) (m : Nat) : ∀ (q : Qu) (ds : List Pk), mu q < m → InvQ bk q → ∃ r ds' q', Takes P q ds r ds' q' := by
 induction m with
 | zero => exact fun q ds h _ => absurd h (Nat.not_lt_zero _)
 | succ m ih =>
  intro q ds h hI
  cases h1 : firstQ q with
  | none => exact ⟨_, _, _, .none h1⟩
  | some bn =>
   obtain ⟨b, nw⟩ := bn
   by_cases hd : (q.fl b).df ≤ 0
   ·obtain ⟨r, ds', q', ht⟩ := ih (turnQ q b) ds (Nat.lt_of_lt_of_le (mu_turn hI h1 hd) (Nat.le_of_lt_succ h)) (inv_turn hI (firstQ_mem h1))
    exact ⟨r, ds', q', .turn h1 hd ht⟩
   ·have hd' : 0 < (q.fl b).df := Int.not_le.1 hd
    obtain ⟨c, n, is, hp⟩ : ∃ c n is, pullF P (q.fl b) = (c, n, is) := ⟨_, _, _, rfl⟩
    cases is with
    | true => exact ⟨_, _, _, .took h1 hd' hp⟩
    | false =>
     have hn := (pullF_bound hp).2 rfl
     obtain ⟨r, ds', q', ht⟩ := ih (goneQ q b nw c n) (ds ++ (q.fl b).pk.take n) (Nat.lt_of_lt_of_le (mu_gone hI h1) (Nat.le_of_lt_succ h)) (inv_gone hI (firstQ_mem h1) (Nat.le_of_eq hn.symm))
     exact ⟨r, ds', q', .gone h1 hd' hp ht⟩
end Go.Proofs.YtndkmgcmegcieaaGreatDoor
/-
  MATHS OF A QUEUE OF FLOWS, IN A CALM: what nobody drops; a fair turn; a fresh flow goes ahead. No program is named.
-/
namespace Go.Proofs.YtndkmgcmegcieaaGreatDoor
set_option linter.unusedVariables false
set_option linter.unusedSimpArgs false
def CalmF (P : Pl) (x : Fl) : Prop := x.cd.on = false ∧ ∀ p ∈ x.pk, P.now - p.at_ < P.target
structure Busy (P : Pl) (sz : Nat → Int) (q : Qu) : Prop where
 calm : ∀ b ∈ q.fresh ++ q.elder, CalmF P (q.fl b)
 some_ : ∀ b ∈ q.fresh ++ q.elder, (q.fl b).pk ≠ []
 size : ∀ b ∈ q.fresh ++ q.elder, ∀ p ∈ (q.fl b).pk, (p.body.length : Int) = sz b
 pos : ∀ b ∈ q.fresh ++ q.elder, 0 < sz b
end Go.Proofs.YtndkmgcmegcieaaGreatDoor
/-
  A FACT PUT ASIDE. No program is named.
-/
namespace Go.Proofs.YtndkmgcmegcieaaGreatDoor
structure Shut (p : Prop) : Prop where out : p
end Go.Proofs.YtndkmgcmegcieaaGreatDoor
/-
  CONTRACTS of inv.Root and of the reference's Root.
-/
namespace Go.Proofs.YtndkmgcmegcieaaGreatDoor
open Go.ChangeShapes Go.WideShapes Go.ChangeAt Go.RowKit
set_option linter.unusedVariables false
set_option linter.unusedSimpArgs false
def bitN : Nat → Nat
 | 0 => 0
 | k + 1 => 2 ^ k
theorem bit_half (k : Nat) : bitN (k + 1) / 2 = bitN k := by
 cases k with
 | zero => rfl
 | succ k => show 2 ^ (k + 1) / 2 = 2 ^ k; rw [Nat.pow_succ]; omega
theorem bit_pos (k : Nat) : 0 < bitN (k + 1) := Nat.two_pow_pos k
set_option maxRecDepth 100000 in
set_option maxHeartbeats 4000000 in
theorem root_any (n : Nat) (w : World) (hn : n < 18446744073709551616) :
 Calls Tryz.prog 107 #[.int .u64 n] w fun e w' => e = .returned (.int .u64 (rootN n : Nat)) ∧ w = w' := by
 have HS := Lib.hid (root_start hn)
 go_enter Tryz.func107, Tryz.ntmps107
 go_wp2
 go_loop [3, 4] (fun r b => ∃ k x : Nat, k ≤ 32 ∧ r = .int .u64 x ∧ b = .int .u64 (bitN k : Nat) ∧ RootAt n x k) (fun _ b => (intOf b).toNat)
 case atStart => exact ⟨32, 0, by omega, rfl, rfl, HS.out⟩
 case round =>
  obtain ⟨k, x, hk, rfl, rfl, hr⟩ := hrel
  clear HS
  cases k with
  | zero =>
   have HR := Lib.hid (rootN_one (root_end hr))
   clear hr
   have hb : ((bitN 0 : Nat) : Int) = 0 := rfl
   rw [hb]
   go_wp2
   go_ret
   exact ⟨ret_int (by rw [HR.out]), rfl⟩
  | succ k =>
   have HF := Lib.hid (root_fits hr)
   have HR := Lib.hid hr
   have HB := Lib.hid (bit_half k)
   have HP := Lib.hid (bit_pos k)
   have HK := Lib.hid (show bitN (k + 1) = 2 ^ k from rfl)
   clear hr
   have HW := Lib.hid (show IntKind.u64.wrap ((x : Int) + (bitN (k + 1) : Nat)) = (x : Int) + (bitN (k + 1) : Nat) by
    rw [IntKind.wrap_u64]; have := HF.out.1; have := HK.out; omega)
   have HW2 := Lib.hid (show IntKind.u64.wrap (((x : Int) + (bitN (k + 1) : Nat)) * ((x : Int) + (bitN (k + 1) : Nat))) = (((x + bitN (k + 1)) * (x + bitN (k + 1)) : Nat) : Int) by
    rw [IntKind.wrap_u64]
    have h1 := HF.out.2
    rw [← HK.out] at h1
    have h2 : ((x : Int) + (bitN (k + 1) : Nat)) * ((x : Int) + (bitN (k + 1) : Nat)) = (((x + bitN (k + 1)) * (x + bitN (k + 1)) : Nat) : Int) := by simp
    omega)
   generalize bitN (k + 1) = b at *
   go_wp2
   ·rename_i hle
    rw [HW.out, HW2.out] at hle
    go_round
    case rel =>
     refine ⟨k, x + b, by omega, by rw [HW.out]; rfl, by rw [← HB.out]; rfl, ?_⟩
     rw [HK.out] at hle ⊢
     exact root_yes HR.out (by exact_mod_cast hle)
    case measure => simp [intOf]; have := HP.out; omega
   ·rename_i hle
    rw [HW.out, HW2.out] at hle
    go_round
    case rel =>
     refine ⟨k, x, by omega, rfl, by rw [← HB.out]; rfl, ?_⟩
     rw [HK.out] at hle
     exact root_no HR.out (by exact_mod_cast hle)
    case measure => simp [intOf]; have := HP.out; omega
set_option maxRecDepth 100000 in
set_option maxHeartbeats 4000000 in
theorem refroot_any (n : Nat) (w : World) (hn : n < 18446744073709551616) :
 Calls Tryz.prog 104 #[.int .u64 n] w fun e w' => e = .returned (.int .u64 (rootN n : Nat)) ∧ w = w' := by
 have HS := Lib.hid (root_start hn)
 go_enter Tryz.func104, Tryz.ntmps104
 go_wp2
 go_loop [3, 4] (fun r b => ∃ k x : Nat, k ≤ 32 ∧ r = .int .u64 x ∧ b = .int .i64 ((k : Int) - 1) ∧ RootAt n x k) (fun _ b => (intOf b + 1).toNat)
 case atStart => exact ⟨32, 0, by omega, rfl, rfl, HS.out⟩
 case round =>
  obtain ⟨k, x, hk, rfl, rfl, hr⟩ := hrel
  clear HS
  cases k with
  | zero =>
   have HR := Lib.hid (rootN_one (root_end hr))
   clear hr
   go_wp2
   go_ret
   exact ⟨ret_int (by rw [HR.out]), rfl⟩
  | succ k =>
   have HF := Lib.hid (root_fits hr)
   have HR := Lib.hid hr
   have hb : ((k + 1 : Nat) : Int) - 1 = (k : Int) := by omega
   rw [hb]
   clear hr
   have HP := Lib.hid (show IntKind.u64.wrap (2 ^ k) = ((2 ^ k : Nat) : Int) by
    have h1 := HF.out.1
    have h2 : ((2 ^ k : Nat) : Int) = (2 : Int) ^ k := by simp
    rw [← h2, IntKind.wrap_u64]
    generalize 2 ^ k = b at *
    omega)
   have HW := Lib.hid (show IntKind.u64.wrap ((x : Int) + ((2 ^ k : Nat) : Int)) = ((x + 2 ^ k : Nat) : Int) by
    have h1 := HF.out.1
    rw [IntKind.wrap_u64]
    generalize 2 ^ k = b at *
    omega)
   have HW2 := Lib.hid (show IntKind.u64.wrap (((x + 2 ^ k : Nat) : Int) * ((x + 2 ^ k : Nat) : Int)) = (((x + 2 ^ k) * (x + 2 ^ k) : Nat) : Int) by
    rw [IntKind.wrap_u64]
    have h1 := HF.out.2
    rw [← Int.natCast_mul]
    generalize (x + 2 ^ k) * (x + 2 ^ k) = b at *
    omega)
   go_wp2
   ·rename_i hle
    rw [HP.out, HW.out, HW2.out] at hle
    go_round
    case rel =>
     refine ⟨k, x + 2 ^ k, by omega, by rw [HP.out, HW.out], rfl, ?_⟩
     exact root_yes HR.out (by exact_mod_cast hle)
    case measure => simp [intOf]
   ·rename_i hle
    rw [HP.out, HW.out, HW2.out] at hle
    go_round
    case rel =>
     exact ⟨k, x, by omega, rfl, rfl, root_no HR.out (by exact_mod_cast hle)⟩
    case measure => simp [intOf]
end Go.Proofs.YtndkmgcmegcieaaGreatDoor
/-
  CONTRACTS of math/bits.Len64, LeadingZeros64, Div64, Mul64, each as far as roots need it.
-/
namespace Go.Proofs.YtndkmgcmegcieaaGreatDoor
open Go.ChangeShapes Go.WideShapes Go.ChangeAt Go.RowKit
set_option linter.unusedVariables false
set_option linter.unusedSimpArgs false
set_option maxRecDepth 100000 in
theorem tab_len : ∀ n : Nat, (h : n < 256) → 0 < n → (1 ≤ ((⟨#[0, 1, 2, 2, 3, 3, 3, 3, 4, 4, 4, 4, 4, 4, 4, 4, 5, 5, 5, 5, 5, 5, 5, 5, 5, 5, 5, 5, 5, 5, 5, 5, 6, 6, 6, 6, 6, 6, 6, 6, 6, 6, 6, 6, 6, 6, 6, 6, 6, 6, 6, 6, 6, 6, 6, 6, 6, 6, 6, 6, 6, 6, 6, 6, 7, 7, 7, 7, 7, 7, 7, 7, 7, 7, 7, 7, 7, 7, 7, 7, 7, 7, 7, 7, 7, 7, 7, 7, 7, 7, 7, 7, 7, 7, 7, 7, 7, 7, 7, 7, 7, 7, 7, 7, 7, 7, 7, 7, 7, 7, 7, 7, 7, 7, 7, 7, 7, 7, 7, 7, 7, 7, 7, 7, 7, 7, 7, 7, 8, 8, 8, 8, 8, 8, 8, 8, 8, 8, 8, 8, 8, 8, 8, 8, 8, 8, 8, 8, 8, 8, 8, 8, 8, 8, 8, 8, 8, 8, 8, 8, 8, 8, 8, 8, 8, 8, 8, 8, 8, 8, 8, 8, 8, 8, 8, 8, 8, 8, 8, 8, 8, 8, 8, 8, 8, 8, 8, 8, 8, 8, 8, 8, 8, 8, 8, 8, 8, 8, 8, 8, 8, 8, 8, 8, 8, 8, 8, 8, 8, 8, 8, 8, 8, 8, 8, 8, 8, 8, 8, 8, 8, 8, 8, 8, 8, 8, 8, 8, 8, 8, 8, 8, 8, 8, 8, 8, 8, 8, 8, 8, 8, 8, 8, 8, 8, 8, 8, 8, 8, 8, 8, 8, 8, 8, 8, 8]⟩ : ByteArray)[n]'h).toNat ∧ ((⟨#[0, 1, 2, 2, 3, 3, 3, 3, 4, 4, 4, 4, 4, 4, 4, 4, 5, 5, 5, 5, 5, 5, 5, 5, 5, 5, 5, 5, 5, 5, 5, 5, 6, 6, 6, 6, 6, 6, 6, 6, 6, 6, 6, 6, 6, 6, 6, 6, 6, 6, 6, 6, 6, 6, 6, 6, 6, 6, 6, 6, 6, 6, 6, 6, 7, 7, 7, 7, 7, 7, 7, 7, 7, 7, 7, 7, 7, 7, 7, 7, 7, 7, 7, 7, 7, 7, 7, 7, 7, 7, 7, 7, 7, 7, 7, 7, 7, 7, 7, 7, 7, 7, 7, 7, 7, 7, 7, 7, 7, 7, 7, 7, 7, 7, 7, 7, 7, 7, 7, 7, 7, 7, 7, 7, 7, 7, 7, 7, 8, 8, 8, 8, 8, 8, 8, 8, 8, 8, 8, 8, 8, 8, 8, 8, 8, 8, 8, 8, 8, 8, 8, 8, 8, 8, 8, 8, 8, 8, 8, 8, 8, 8, 8, 8, 8, 8, 8, 8, 8, 8, 8, 8, 8, 8, 8, 8, 8, 8, 8, 8, 8, 8, 8, 8, 8, 8, 8, 8, 8, 8, 8, 8, 8, 8, 8, 8, 8, 8, 8, 8, 8, 8, 8, 8, 8, 8, 8, 8, 8, 8, 8, 8, 8, 8, 8, 8, 8, 8, 8, 8, 8, 8, 8, 8, 8, 8, 8, 8, 8, 8, 8, 8, 8, 8, 8, 8, 8, 8, 8, 8, 8, 8, 8, 8, 8, 8, 8, 8, 8, 8, 8, 8, 8, 8, 8, 8]⟩ : ByteArray)[n]'h).toNat ≤ 8 ∧ 2 ^ (((⟨#[0, 1, 2, 2, 3, 3, 3, 3, 4, 4, 4, 4, 4, 4, 4, 4, 5, 5, 5, 5, 5, 5, 5, 5, 5, 5, 5, 5, 5, 5, 5, 5, 6, 6, 6, 6, 6, 6, 6, 6, 6, 6, 6, 6, 6, 6, 6, 6, 6, 6, 6, 6, 6, 6, 6, 6, 6, 6, 6, 6, 6, 6, 6, 6, 7, 7, 7, 7, 7, 7, 7, 7, 7, 7, 7, 7, 7, 7, 7, 7, 7, 7, 7, 7, 7, 7, 7, 7, 7, 7, 7, 7, 7, 7, 7, 7, 7, 7, 7, 7, 7, 7, 7, 7, 7, 7, 7, 7, 7, 7, 7, 7, 7, 7, 7, 7, 7, 7, 7, 7, 7, 7, 7, 7, 7, 7, 7, 7, 8, 8, 8, 8, 8, 8, 8, 8, 8, 8, 8, 8, 8, 8, 8, 8, 8, 8, 8, 8, 8, 8, 8, 8, 8, 8, 8, 8, 8, 8, 8, 8, 8, 8, 8, 8, 8, 8, 8, 8, 8, 8, 8, 8, 8, 8, 8, 8, 8, 8, 8, 8, 8, 8, 8, 8, 8, 8, 8, 8, 8, 8, 8, 8, 8, 8, 8, 8, 8, 8, 8, 8, 8, 8, 8, 8, 8, 8, 8, 8, 8, 8, 8, 8, 8, 8, 8, 8, 8, 8, 8, 8, 8, 8, 8, 8, 8, 8, 8, 8, 8, 8, 8, 8, 8, 8, 8, 8, 8, 8, 8, 8, 8, 8, 8, 8, 8, 8, 8, 8, 8, 8, 8, 8, 8, 8, 8, 8]⟩ : ByteArray)[n]'h).toNat - 1) ≤ n ∧ n < 2 ^ ((⟨#[0, 1, 2, 2, 3, 3, 3, 3, 4, 4, 4, 4, 4, 4, 4, 4, 5, 5, 5, 5, 5, 5, 5, 5, 5, 5, 5, 5, 5, 5, 5, 5, 6, 6, 6, 6, 6, 6, 6, 6, 6, 6, 6, 6, 6, 6, 6, 6, 6, 6, 6, 6, 6, 6, 6, 6, 6, 6, 6, 6, 6, 6, 6, 6, 7, 7, 7, 7, 7, 7, 7, 7, 7, 7, 7, 7, 7, 7, 7, 7, 7, 7, 7, 7, 7, 7, 7, 7, 7, 7, 7, 7, 7, 7, 7, 7, 7, 7, 7, 7, 7, 7, 7, 7, 7, 7, 7, 7, 7, 7, 7, 7, 7, 7, 7, 7, 7, 7, 7, 7, 7, 7, 7, 7, 7, 7, 7, 7, 8, 8, 8, 8, 8, 8, 8, 8, 8, 8, 8, 8, 8, 8, 8, 8, 8, 8, 8, 8, 8, 8, 8, 8, 8, 8, 8, 8, 8, 8, 8, 8, 8, 8, 8, 8, 8, 8, 8, 8, 8, 8, 8, 8, 8, 8, 8, 8, 8, 8, 8, 8, 8, 8, 8, 8, 8, 8, 8, 8, 8, 8, 8, 8, 8, 8, 8, 8, 8, 8, 8, 8, 8, 8, 8, 8, 8, 8, 8, 8, 8, 8, 8, 8, 8, 8, 8, 8, 8, 8, 8, 8, 8, 8, 8, 8, 8, 8, 8, 8, 8, 8, 8, 8, 8, 8, 8, 8, 8, 8, 8, 8, 8, 8, 8, 8, 8, 8, 8, 8, 8, 8, 8, 8, 8, 8, 8, 8]⟩ : ByteArray)[n]'h).toNat) := by decide +kernel
def IsLen (c L : Nat) : Prop := 1 ≤ L ∧ L ≤ 32 ∧ 2 ^ (L - 1) ≤ c ∧ c < 2 ^ L
theorem len_up {c m T : Nat} (j : Nat) (hj : j ≤ 24) (hm : m = c / 2 ^ j) (h : 1 ≤ T ∧ T ≤ 8 ∧ 2 ^ (T - 1) ≤ m ∧ m < 2 ^ T) : IsLen c (T + j) := by
 subst hm
 obtain ⟨h1, h2, h3, h4⟩ := h
 refine ⟨by omega, by omega, ?_, ?_⟩
 ·rw [show T + j - 1 = T - 1 + j by omega, Nat.pow_add]
  exact (Nat.le_div_iff_mul_le (Nat.two_pow_pos j)).1 h3
 ·rw [Nat.pow_add]
  exact (Nat.div_lt_iff_lt_mul (Nat.two_pow_pos j)).1 h4
set_option maxRecDepth 100000 in
set_option maxHeartbeats 4000000 in
theorem len64_a (c : Nat) (w : World) (h0 : 1 ≤ c) (h1 : c < 256) :
 Calls Tryz.prog 109 #[.int .u64 c] w fun e w' => (∃ L : Nat, IsLen c L ∧ e = .returned (.int .i64 L)) ∧ w = w' := by
 have a1 : ¬ (4294967296 : Int) ≤ (c : Int) := by omega
 have a2 : ¬ (65536 : Int) ≤ (c : Int) := by omega
 have a3 : ¬ (256 : Int) ≤ (c : Int) := by omega
 have HT := Lib.hid (tab_len c h1 h0)
 go_enter Tryz.func109, Tryz.ntmps109
 go_wp2
 go_ret
 have h := HT.out
 refine ⟨⟨_, len_up 0 (by omega) (by simp) h, ret_int ?_⟩, rfl⟩
 unfold wrap64
 omega
set_option maxRecDepth 100000 in
set_option maxHeartbeats 4000000 in
theorem len64_b (c : Nat) (w : World) (h0 : 256 ≤ c) (h1 : c < 65536) :
 Calls Tryz.prog 109 #[.int .u64 c] w fun e w' => (∃ L : Nat, IsLen c L ∧ e = .returned (.int .i64 L)) ∧ w = w' := by
 have a1 : ¬ (4294967296 : Int) ≤ (c : Int) := by omega
 have a2 : ¬ (65536 : Int) ≤ (c : Int) := by omega
 have a3 : (256 : Int) ≤ (c : Int) := by omega
 obtain ⟨m, hm⟩ := Int.eq_ofNat_of_zero_le (show 0 ≤ (c : Int) / 256 by omega)
 have a4 : m < 256 := by omega
 have a5 : (m : Int) < 256 := by omega
 have HT := Lib.hid (tab_len m a4 (by omega))
 have HM := Lib.hid (show m = c / 2 ^ 8 by omega)
 go_enter Tryz.func109, Tryz.ntmps109
 go_wp2
 go_ret
 have h := HT.out
 refine ⟨⟨_, len_up 8 (by omega) HM.out h, ret_int ?_⟩, rfl⟩
 unfold wrap64
 omega
set_option maxRecDepth 100000 in
set_option maxHeartbeats 4000000 in
theorem len64_c (c : Nat) (w : World) (h0 : 65536 ≤ c) (h1 : c < 16777216) :
 Calls Tryz.prog 109 #[.int .u64 c] w fun e w' => (∃ L : Nat, IsLen c L ∧ e = .returned (.int .i64 L)) ∧ w = w' := by
 have a1 : ¬ (4294967296 : Int) ≤ (c : Int) := by omega
 have a2 : (65536 : Int) ≤ (c : Int) := by omega
 obtain ⟨m, hm⟩ := Int.eq_ofNat_of_zero_le (show 0 ≤ (c : Int) / 65536 by omega)
 have a3 : ¬ (256 : Int) ≤ (m : Int) := by omega
 have a4 : m < 256 := by omega
 have a5 : (m : Int) < 256 := by omega
 have HT := Lib.hid (tab_len m a4 (by omega))
 have HM := Lib.hid (show m = c / 2 ^ 16 by omega)
 go_enter Tryz.func109, Tryz.ntmps109
 go_wp2
 go_ret
 have h := HT.out
 refine ⟨⟨_, len_up 16 (by omega) HM.out h, ret_int ?_⟩, rfl⟩
 unfold wrap64
 omega
set_option maxRecDepth 100000 in
set_option maxHeartbeats 4000000 in
theorem len64_d (c : Nat) (w : World) (h0 : 16777216 ≤ c) (h1 : c < 4294967296) :
 Calls Tryz.prog 109 #[.int .u64 c] w fun e w' => (∃ L : Nat, IsLen c L ∧ e = .returned (.int .i64 L)) ∧ w = w' := by
 have a1 : ¬ (4294967296 : Int) ≤ (c : Int) := by omega
 have a2 : (65536 : Int) ≤ (c : Int) := by omega
 obtain ⟨p, hp⟩ := Int.eq_ofNat_of_zero_le (show 0 ≤ (c : Int) / 65536 by omega)
 have a3 : (256 : Int) ≤ (p : Int) := by omega
 obtain ⟨m, hm⟩ := Int.eq_ofNat_of_zero_le (show 0 ≤ (p : Int) / 256 by omega)
 have a4 : m < 256 := by omega
 have a5 : (m : Int) < 256 := by omega
 have HT := Lib.hid (tab_len m a4 (by omega))
 have HM := Lib.hid (show m = c / 2 ^ 24 by omega)
 go_enter Tryz.func109, Tryz.ntmps109
 go_wp2
 go_ret
 have h := HT.out
 refine ⟨⟨_, len_up 24 (by omega) HM.out h, ret_int ?_⟩, rfl⟩
 unfold wrap64
 omega
theorem len64_any (c : Nat) (w : World) (h0 : 1 ≤ c) (h1 : c < 4294967296) :
 Calls Tryz.prog 109 #[.int .u64 c] w fun e w' => (∃ L : Nat, IsLen c L ∧ e = .returned (.int .i64 L)) ∧ w = w' := by
 by_cases a : c < 256
 ·exact len64_a c w h0 a
 by_cases b : c < 65536
 ·exact len64_b c w (by omega) b
 by_cases d : c < 16777216
 ·exact len64_c c w (by omega) d
 ·exact len64_d c w (by omega) h1
end Go.Proofs.YtndkmgcmegcieaaGreatDoor
/-
  CONTRACT of math/bits.LeadingZeros64, of math/bits.Div64 of 2^64 by a count.
-/
namespace Go.Proofs.YtndkmgcmegcieaaGreatDoor
open Go.ChangeShapes Go.WideShapes Go.ChangeAt Go.RowKit
set_option linter.unusedVariables false
set_option linter.unusedSimpArgs false
set_option maxRecDepth 100000 in
set_option maxHeartbeats 4000000 in
theorem lead_any (c : Nat) (w : World) (h0 : 1 ≤ c) (h1 : c < 4294967296) :
 Calls Tryz.prog 108 #[.int .u64 c] w fun e w' => (∃ L : Nat, IsLen c L ∧ e = .returned (.int .i64 (64 - (L : Int)))) ∧ w = w' := by
 have H0 := Lib.hid h0
 have H1 := Lib.hid h1
 clear h0 h1
 go_enter Tryz.func108, Tryz.ntmps108
 go_wp2_with (fail)
 refine (len64_any c _ H0.out H1.out).mono ?_
 rintro e w' ⟨⟨L, hL, rfl⟩, rfl⟩
 have HL := Lib.hid hL
 have a1 : 1 ≤ L := hL.1
 have a2 : L ≤ 32 := hL.2.1
 clear hL
 go_wp2
 go_ret
 exact ⟨⟨L, HL.out, rfl⟩, rfl⟩
theorem u64_in {n : Int} (h0 : 0 ≤ n) (h1 : n < 18446744073709551616) : IntKind.u64.wrap n = n := by rw [IntKind.wrap_u64]; omega
theorem and_low (d : Nat) (h : d < 4294967296) : bits .and .u64 ((d * 4294967296 : Nat) : Int) 4294967295 = 0 := by
 have e := bits_and_u64_nat (d * 4294967296) 4294967295 (by omega) (by omega)
 have e2 : (d * 4294967296) &&& 4294967295 = 0 := by
  rw [show (4294967295 : Nat) = 2 ^ 32 - 1 from rfl, Nat.and_two_pow_sub_one_eq_mod]; omega
 rw [e2] at e
 exact e
theorem or_zero (u : Nat) (h : u < 18446744073709551616) : bits .or .u64 (u : Int) 0 = u := by
 have e := bits_or_u64_nat u 0 h (by omega)
 simpa using e
structure Divs (c s : Nat) (Y D U Q M R Z A B P M2 R2 Z2 G N : Int) : Prop where
 y : IntKind.u64.wrap ((c : Int) * 2 ^ s) = Y
 d : Y / 4294967296 = D
 lo : bits .and .u64 Y 4294967295 = 0
 u : IntKind.u64.wrap (2 ^ s) = U
 or : bits .or .u64 U 0 = U
 d0 : ¬ D = 0
 q : IntKind.u64.wrap (U.tdiv D) = Q
 m : IntKind.u64.wrap (Q * D) = M
 r : IntKind.u64.wrap (U - M) = R
 q1 : ¬ 4294967296 ≤ Q
 z : IntKind.u64.wrap (4294967296 * R) = Z
 z0 : ¬ Z < 0
 zz : IntKind.u64.wrap Z = Z
 a : IntKind.u64.wrap (U * 4294967296) = A
 aa : IntKind.u64.wrap A = A
 b : IntKind.u64.wrap (Q * Y) = B
 ab : IntKind.u64.wrap (A - B) = Z
 p : IntKind.u64.wrap (Z.tdiv D) = P
 m2 : IntKind.u64.wrap (P * D) = M2
 r2 : IntKind.u64.wrap (Z - M2) = R2
 p1 : ¬ 4294967296 ≤ P
 z2 : IntKind.u64.wrap (4294967296 * R2) = Z2
 z20 : ¬ Z2 < 0
 zz2 : IntKind.u64.wrap Z2 = Z2
 g : IntKind.u64.wrap (Q * 4294967296) = G
 n : IntKind.u64.wrap (G + P) = N
 n' : N = (18446744073709551616 / c : Nat)
theorem wrap_nn (n : Int) : ¬ IntKind.u64.wrap n < 0 := by rw [IntKind.wrap_u64]; omega
theorem wrap_wrap (n : Int) : IntKind.u64.wrap (IntKind.u64.wrap n) = IntKind.u64.wrap n := by simp only [IntKind.wrap_u64]; omega
theorem divs_of {c k : Nat} (h0 : 2 ≤ c) (hL : IsLen c (32 - k)) (hk : k ≤ 30) : ∃ Y D U Q M R Z A B P M2 R2 Z2 G N, Divs c (32 + k) Y D U Q M R Z A B P M2 R2 Z2 G N := by
 obtain ⟨T, hT⟩ : ∃ T, T = 2 ^ k := ⟨_, rfl⟩
 have hT0 : 0 < T := by rw [hT]; exact Nat.two_pow_pos k
 have hd : c * T < 4294967296 := by
  have h := hL.2.2.2
  have e : 2 ^ (32 - k) * 2 ^ k = 4294967296 := by rw [← Nat.pow_add, show 32 - k + k = 32 by omega]
  rw [hT, ← e]
  exact Nat.mul_lt_mul_of_pos_right h (Nat.two_pow_pos k)
 have hs : (2 : Int) ^ (32 + k) = ((4294967296 * T : Nat) : Int) := by
  rw [hT, Int.pow_add, Int.natCast_mul, Int.natCast_pow, show (2 : Int) ^ 32 = ((4294967296 : Nat) : Int) by decide]
  rfl
 have hTc : T ≤ 2147483648 := by
  have h1 : 2 * T ≤ c * T := Nat.mul_le_mul_right _ h0
  omega
 have hcT : (c : Int) * (4294967296 * T : Nat) = ((c * T * 4294967296 : Nat) : Int) := by
  rw [← Int.natCast_mul, Nat.mul_assoc c T, Nat.mul_comm T]
 obtain ⟨d, hdd⟩ : ∃ d, d = c * T := ⟨_, rfl⟩
 have hd0 : 0 < d := by rw [hdd]; exact Nat.mul_pos (by omega) hT0
 obtain ⟨q, hq⟩ : ∃ q, q = 4294967296 / c := ⟨_, rfl⟩
 obtain ⟨r, hr⟩ : ∃ r, r = 4294967296 % c := ⟨_, rfl⟩
 have hdm : c * q + r = 4294967296 := by rw [hq, hr]; exact Nat.div_add_mod _ _
 have hrc : r < c := by rw [hr]; exact Nat.mod_lt _ (by omega)
 have hq1 : q ≤ 2147483648 := by rw [hq]; exact Nat.le_trans (Nat.div_le_div_left h0 (by omega)) (by decide)
 have hqd : q * d + r * T = 4294967296 * T := by rw [hdd, ← hdm, Nat.add_mul, ← Nat.mul_assoc, Nat.mul_comm q c]
 have hqU : 4294967296 * T / d = q := by rw [hdd, hq, Nat.mul_div_mul_right _ _ hT0]
 have hrT : r * T < d := by rw [hdd]; exact Nat.mul_lt_mul_of_pos_right hrc hT0
 obtain ⟨p, hp⟩ : ∃ p, p = 4294967296 * r / c := ⟨_, rfl⟩
 have hpZ : 4294967296 * (r * T) / d = p := by rw [hdd, hp, ← Nat.mul_assoc, Nat.mul_div_mul_right _ _ hT0]
 have hp1 : p < 4294967296 := by
  rw [hp]; exact (Nat.div_lt_iff_lt_mul (by omega)).2 (by omega)
 have hn : q * 4294967296 + p = 18446744073709551616 / c := by
  have e : 18446744073709551616 = c * (q * 4294967296) + 4294967296 * r := by
   have : 18446744073709551616 = (c * q + r) * 4294967296 := by rw [hdm]
   rw [this, Nat.add_mul, Nat.mul_assoc, Nat.mul_comm r]
  rw [e, Nat.mul_add_div (by omega), hp]
 have hqY : (q : Int) * (d * 4294967296 : Nat) = ((q * d * 4294967296 : Nat) : Int) := by rw [← Int.natCast_mul, Nat.mul_assoc]
 have hqd' : (q : Int) * (d : Int) = ((q * d : Nat) : Int) := by rw [← Int.natCast_mul]
 generalize q * d = qd at *
 generalize r * T = rT at *
 obtain ⟨Y, hY⟩ : ∃ Y : Nat, Y = d * 4294967296 := ⟨_, rfl⟩
 obtain ⟨U, hU⟩ : ∃ U : Nat, U = 4294967296 * T := ⟨_, rfl⟩
 obtain ⟨Z, hZ⟩ : ∃ Z : Nat, Z = 4294967296 * rT := ⟨_, rfl⟩
 obtain ⟨V, hV⟩ : ∃ V : Nat, V = qd * 4294967296 := ⟨_, rfl⟩
 obtain ⟨G, hG⟩ : ∃ G : Nat, G = q * 4294967296 := ⟨_, rfl⟩
 obtain ⟨A, hA⟩ : ∃ A : Int, IntKind.u64.wrap ((U : Int) * 4294967296) = A := ⟨_, rfl⟩
 obtain ⟨B, hB⟩ : ∃ B : Int, IntKind.u64.wrap ((q : Int) * (Y : Int)) = B := ⟨_, rfl⟩
 obtain ⟨M2, hM2⟩ : ∃ A : Int, IntKind.u64.wrap ((p : Int) * (d : Int)) = A := ⟨_, rfl⟩
 obtain ⟨R2, hR2⟩ : ∃ A : Int, IntKind.u64.wrap ((Z : Int) - M2) = A := ⟨_, rfl⟩
 obtain ⟨Z2, hZ2⟩ : ∃ A : Int, IntKind.u64.wrap (4294967296 * R2) = A := ⟨_, rfl⟩
 obtain ⟨N, hN⟩ : ∃ N : Nat, N = 18446744073709551616 / c := ⟨_, rfl⟩
 rw [← hU] at hs hqd hqU
 rw [← hY] at hqY
 rw [← hV] at hqY
 rw [← hZ] at hpZ
 rw [← hG, ← hN] at hn
 have hcU : (c : Int) * (U : Int) = (Y : Int) := by rw [hU, hcT, hY, hdd]
 clear hcT
 have hUd : (U : Int) / (d : Int) = (q : Int) := by rw [← Int.natCast_ediv, hqU]
 have hZd : (Z : Int) / (d : Int) = (p : Int) := by rw [← Int.natCast_ediv, hpZ]
 have hNc : N ≤ 18446744073709551615 := by omega
 refine ⟨Y, d, U, q, qd, rT, Z, A, B, p, M2, R2, Z2, G, N, ?_⟩
 exact {
  y := by rw [hs, hcU]; exact u64_in (by omega) (by omega)
  d := by omega
  lo := by rw [hY]; exact and_low d (by omega)
  u := by rw [hs]; exact u64_in (by omega) (by omega)
  or := or_zero _ (by omega)
  d0 := by omega
  q := by rw [Int.tdiv_eq_ediv_of_nonneg (by omega), hUd]; exact u64_in (by omega) (by omega)
  m := by rw [hqd']; exact u64_in (by omega) (by omega)
  r := by rw [show (U : Int) - (qd : Int) = rT by omega]; exact u64_in (by omega) (by omega)
  q1 := by omega
  z := by rw [show 4294967296 * (rT : Int) = (Z : Int) by omega]; exact u64_in (by omega) (by omega)
  z0 := by omega
  zz := u64_in (by omega) (by omega)
  a := hA
  aa := by rw [← hA]; exact wrap_wrap _
  b := hB
  ab := by
   rw [← hA, ← hB, hqY]
   simp only [IntKind.wrap_u64]
   omega
  p := by rw [Int.tdiv_eq_ediv_of_nonneg (by omega), hZd]; exact u64_in (by omega) (by omega)
  m2 := hM2
  r2 := hR2
  p1 := by omega
  z2 := hZ2
  z20 := by rw [← hZ2]; exact wrap_nn _
  zz2 := by rw [← hZ2]; exact wrap_wrap _
  g := by rw [show (q : Int) * 4294967296 = (G : Int) by omega]; exact u64_in (by omega) (by omega)
  n := by rw [show (G : Int) + (p : Int) = (N : Int) by omega]; exact u64_in (by omega) (by omega)
  n' := by rw [hN] }
set_option maxRecDepth 100000 in
set_option maxHeartbeats 4000000 in
theorem div64_any (c : Nat) (w : World) (h0 : 2 ≤ c) (h1 : c < 4294967296) :
 Calls Tryz.prog 106 #[.int .u64 1, .int .u64 0, .int .u64 c] w fun e w' => (∃ r : Int, e = .returned (.tuple #[.int .u64 (18446744073709551616 / c : Nat), .int .u64 r])) ∧ w = w' := by
 have H0 := Lib.hid h0
 have H1 := Lib.hid h1
 have a0 : ¬ (c : Int) = 0 := by omega
 have a1 : ¬ (c : Int) ≤ 1 := by omega
 clear h0 h1
 go_enter Tryz.func106, Tryz.ntmps106
 go_wp2_with (fail)
 refine (lead_any c _ (by have := H0.out; omega) H1.out).mono ?_
 rintro e w' ⟨⟨L, hL, rfl⟩, rfl⟩
 obtain ⟨k, hk⟩ : ∃ k : Nat, L = 32 - k ∧ k ≤ 30 := ⟨32 - L, by have := hL.2.1; omega, by
  have h := hL.2.2.2
  have : 2 ≤ L := by
   rcases Nat.lt_or_ge L 2 with h2 | h2
   ·have h3 : L = 1 := by have := hL.1; omega
    rw [h3] at h; have := H0.out; omega
   ·exact h2
  omega⟩
 obtain ⟨rfl, hk⟩ := hk
 have hs : (64 : Int) - ((32 - k : Nat) : Int) = ((32 + k : Nat) : Int) := by omega
 have hs1 : (32 + k : Nat) ≤ 62 := by omega
 obtain ⟨Y, D, U, Q, M, R, Z, A, B, P, M2, R2, Z2, G, N, hF⟩ := divs_of H0.out hL hk
 have HN := Lib.hid hF.n'
 rw [hs]
 clear hs hL hk H0 H1
 generalize 32 + k = s at *
 clear k
 have hs2 : (s : Int) ≤ 62 := by omega
 obtain ⟨y, d, lo, u, or, d0, q, m, r, q1, z, z0, zz, a, aa, b, ab, p, m2, r2, p1, z2, z20, zz2, g, n, n'⟩ := hF
 clear n'
 have lo0 : bits .and .u64 0 4294967295 = 0 := by decide
 go_wp2_with (fail)
 go_loop [15, 16] (fun qq rr => qq = .int .u64 Q ∧ rr = .int .u64 R) (fun _ _ => 0)
 case atStart => exact ⟨rfl, rfl⟩
 case round =>
  obtain ⟨rfl, rfl⟩ := hrel
  go_wp2_with (fail)
  go_loop [18, 16] (fun qq rr => qq = .int .u64 P ∧ rr = .int .u64 R2) (fun _ _ => 0)
  case atStart => exact ⟨rfl, rfl⟩
  case round =>
   obtain ⟨rfl, rfl⟩ := hrel
   go_wp2_with (fail)
   go_ret2
   exact ⟨⟨_, congrArg (fun x => Ending.returned (.tuple #[.int .u64 x, .int .u64 _])) HN.out⟩, rfl⟩
end Go.Proofs.YtndkmgcmegcieaaGreatDoor
/-
  CONTRACTS of math/bits.Mul64 (of an interval by one over a root), of inv.Inv, inv.Next, of the reference's Inv, clamp, Next.
-/
namespace Go.Proofs.YtndkmgcmegcieaaGreatDoor
open Go.ChangeShapes Go.WideShapes Go.ChangeAt Go.RowKit
set_option linter.unusedVariables false
set_option linter.unusedSimpArgs false
theorem and_mask (a : Nat) (h : a < 18446744073709551616) : bits .and .u64 (a : Int) 4294967295 = ((a % 4294967296 : Nat) : Int) := by
 have e := bits_and_u64_nat a 4294967295 h (by omega)
 have e2 : a &&& 4294967295 = a % 4294967296 := by
  rw [show (4294967295 : Nat) = 2 ^ 32 - 1 from rfl, Nat.and_two_pow_sub_one_eq_mod]
 rw [e2] at e
 exact e
structure Muls (a b : Nat) (Y0 Y1 W T V P : Int) : Prop where
 x0 : bits .and .u64 (a : Int) 4294967295 = a
 x1 : (a : Int) / 4294967296 = 0
 y0 : bits .and .u64 (b : Int) 4294967295 = Y0
 y1 : (b : Int) / 4294967296 = Y1
 w : IntKind.u64.wrap ((a : Int) * Y0) = W
 t : W / 4294967296 = T
 tt : IntKind.u64.wrap T = T
 t1 : bits .and .u64 T 4294967295 = T
 t2 : T / 4294967296 = 0
 p : IntKind.u64.wrap ((a : Int) * Y1) = P
 v : IntKind.u64.wrap (T + P) = V
 v1 : V / 4294967296 = 0
 lo : IntKind.u64.wrap ((a : Int) * (b : Int)) = ((a * b : Nat) : Int)
theorem muls_of {a b : Nat} (ha : a ≤ 1073741824) (hb : b ≤ 4294967296) : ∃ Y0 Y1 W T V P, Muls a b Y0 Y1 W T V P := by
 have hab : a * b ≤ 1073741824 * 4294967296 := Nat.mul_le_mul ha hb
 have hlo : IntKind.u64.wrap ((a : Int) * (b : Int)) = ((a * b : Nat) : Int) := by
  rw [← Int.natCast_mul]; generalize a * b = z at *; exact u64_in (by omega) (by omega)
 have hx0 : bits .and .u64 (a : Int) 4294967295 = a := by rw [and_mask a (by omega), Nat.mod_eq_of_lt (by omega)]
 rcases Nat.lt_or_ge b 4294967296 with h | h
 ·obtain ⟨z, hz⟩ : ∃ z, z = a * b := ⟨_, rfl⟩
  rw [← hz] at hlo hab
  refine ⟨b, 0, z, (z / 4294967296 : Nat), (z / 4294967296 : Nat), 0, ?_⟩
  have hz2 : z / 4294967296 < 4294967296 := by omega
  exact {
   x0 := hx0
   x1 := by omega
   y0 := by rw [and_mask b (by omega), Nat.mod_eq_of_lt h]
   y1 := by omega
   w := hlo
   t := by omega
   tt := u64_in (by omega) (by omega)
   t1 := by rw [and_mask _ (by omega), Nat.mod_eq_of_lt (by omega)]
   t2 := by omega
   p := by rw [Int.mul_zero]; exact u64_in (by omega) (by omega)
   v := by rw [Int.add_zero]; exact u64_in (by omega) (by omega)
   v1 := by omega
   lo := by rw [← hz]; exact hlo }
 ·obtain rfl : b = 4294967296 := by omega
  refine ⟨0, 1, 0, 0, a, a, ?_⟩
  exact {
   x0 := hx0
   x1 := by omega
   y0 := by decide
   y1 := by decide
   w := by rw [Int.mul_zero]; exact u64_in (by omega) (by omega)
   t := by omega
   tt := u64_in (by omega) (by omega)
   t1 := by decide
   t2 := by omega
   p := by rw [Int.mul_one]; exact u64_in (by omega) (by omega)
   v := by rw [Int.zero_add]; exact u64_in (by omega) (by omega)
   v1 := by omega
   lo := hlo }
set_option maxRecDepth 100000 in
set_option maxHeartbeats 4000000 in
theorem mul64_any (a b : Nat) (w : World) (ha : a ≤ 1073741824) (hb : b ≤ 4294967296) :
 Calls Tryz.prog 99 #[.int .u64 a, .int .u64 b] w fun e w' => e = .returned (.tuple #[.int .u64 0, .int .u64 (a * b : Nat)]) ∧ w = w' := by
 obtain ⟨Y0, Y1, W, T, V, P, hx0, hx1, hy0, hy1, hw, ht, htt, ht1, ht2, hp, hv, hv1, hlo⟩ := muls_of ha hb
 generalize a * b = z at *
 clear ha hb
 go_enter Tryz.func99, Tryz.ntmps99
 go_wp2
 go_ret2
 exact ⟨rfl, rfl⟩
set_option maxRecDepth 100000 in
theorem inv_any (c : Nat) (w : World) (hc : c < 4294967296) :
 Calls Tryz.prog 105 #[.int .u32 c] w fun e w' => e = .returned (.int .u64 (invN c : Nat)) ∧ w = w' := by
 by_cases h : c ≤ 1
 ·have HE := Lib.hid (show invN c = 4294967296 by unfold invN; rw [if_pos h])
  have h' : (c : Int) ≤ 1 := by omega
  clear h
  go_enter Tryz.func105, Tryz.ntmps105
  go_wp2
  go_ret
  exact ⟨ret_int (by rw [HE.out]; rfl), rfl⟩
 ·have HE := Lib.hid (show invN c = rootN (18446744073709551616 / c) by unfold invN; rw [if_neg h])
  have h' : ¬ (c : Int) ≤ 1 := by omega
  have H2 := Lib.hid (show 2 ≤ c by omega)
  have HC := Lib.hid hc
  have hcc : (c : Int) < 4294967296 := by omega
  have HQ := Lib.hid (show 18446744073709551616 / c < 18446744073709551616 from Nat.lt_of_le_of_lt (Nat.div_le_div_left H2.out (by omega)) (by decide))
  clear h hc
  go_enter Tryz.func105, Tryz.ntmps105
  go_wp2_with (fail)
  refine (div64_any c _ H2.out HC.out).mono ?_
  rintro e w' ⟨⟨r, rfl⟩, rfl⟩
  generalize 18446744073709551616 / c = q at *
  go_wp2_with (fail)
  refine (root_any q _ HQ.out).mono ?_
  rintro e w' ⟨rfl, rfl⟩
  go_wp2
  go_ret
  exact ⟨ret_int (by rw [HE.out]), rfl⟩
set_option maxRecDepth 100000 in
theorem refinv_any (c : Nat) (w : World) (hc : c < 4294967296) :
 Calls Tryz.prog 100 #[.int .u32 c] w fun e w' => e = .returned (.int .u64 (invN c : Nat)) ∧ w = w' := by
 by_cases h : c ≤ 1
 ·have HE := Lib.hid (show invN c = 4294967296 by unfold invN; rw [if_pos h])
  have h' : (c : Int) ≤ 1 := by omega
  clear h
  go_enter Tryz.func100, Tryz.ntmps100
  go_wp2
  go_ret
  exact ⟨ret_int (by rw [HE.out]; rfl), rfl⟩
 ·have HE := Lib.hid (show invN c = rootN (18446744073709551616 / c) by unfold invN; rw [if_neg h])
  have HQ64 := Lib.hid (quo_64 (show 1 < c by omega) (show c ≤ 4294967295 by omega))
  have h' : ¬ (c : Int) ≤ 1 := by omega
  have h0' : ¬ (c : Int) = 0 := by omega
  obtain ⟨q, hq⟩ : ∃ q, q = 18446744073709551615 / c := ⟨_, rfl⟩
  obtain ⟨r, hr⟩ : ∃ r, r = 18446744073709551615 % c := ⟨_, rfl⟩
  obtain ⟨d, hd⟩ : ∃ d, d = c - 1 := ⟨_, rfl⟩
  have hq1 : q ≤ 9223372036854775807 := by rw [hq]; exact Nat.le_trans (Nat.div_le_div_left (show 2 ≤ c by omega) (by omega)) (by decide)
  have hrc : r < c := by rw [hr]; exact Nat.mod_lt _ (by omega)
  rw [← hq, ← hr, ← hd] at HQ64
  have hc0 : ¬ c = 0 := by omega
  have gq : (18446744073709551615 : Int) / (c : Int) = (q : Int) := by
   rw [show (18446744073709551615 : Int) = ((18446744073709551615 : Nat) : Int) from rfl, ← Int.natCast_ediv, ← hq]
  have gr : (18446744073709551615 : Int) % (c : Int) = (r : Int) := by
   rw [show (18446744073709551615 : Int) = ((18446744073709551615 : Nat) : Int) from rfl, ← Int.natCast_emod, ← hr]
  have hdI : (c : Int) - 1 = (d : Int) := by omega
  have hcc : (c : Int) < 4294967296 := by omega
  have hqq : (q : Int) ≤ 9223372036854775807 := by omega
  have fq2 : IntKind.u64.wrap ((q : Int) + 1) = ((q + 1 : Nat) : Int) := by
   rw [show (q : Int) + 1 = ((q + 1 : Nat) : Int) by omega]
   exact u64_in (by omega) (by omega)
  have HQ := Lib.hid hq1
  clear h hq hr hq1 hrc hc hd
  go_enter Tryz.func100, Tryz.ntmps100
  by_cases hh : r = d
  ·rw [if_pos hh] at HQ64
   have ht : ((18446744073709551615 : Int) % (c : Int) == (c : Int) - 1) = true := by rw [gr, hdI, hh]; simp
   clear hh gr hdI
   go_wp2_with (fail)
   refine (refroot_any (q + 1) _ (by have := HQ.out; omega)).mono ?_
   rintro e w' ⟨rfl, rfl⟩
   go_wp2
   go_ret
   exact ⟨ret_int (by rw [HE.out, HQ64.out]), rfl⟩
  ·rw [if_neg hh] at HQ64
   have ht : ((18446744073709551615 : Int) % (c : Int) == (c : Int) - 1) = false := by rw [gr, hdI]; simp; omega
   clear hh gr hdI
   go_wp2_with (fail)
   refine (refroot_any q _ (by have := HQ.out; omega)).mono ?_
   rintro e w' ⟨rfl, rfl⟩
   go_wp2
   go_ret
   exact ⟨ret_int (by rw [HE.out, HQ64.out]), rfl⟩
end Go.Proofs.YtndkmgcmegcieaaGreatDoor
/-
  CONTRACTS of the reference's clamp and Next, of inv.Next.
-/
namespace Go.Proofs.YtndkmgcmegcieaaGreatDoor
open Go.ChangeShapes Go.WideShapes Go.ChangeAt Go.RowKit
set_option linter.unusedVariables false
set_option linter.unusedSimpArgs false
set_option maxRecDepth 100000 in
theorem clamp_any (n lo hi : Int) (w : World) :
 Calls Tryz.prog 87 #[.int .i64 n, .int .i64 lo, .int .i64 hi] w fun e w' => e = .returned (.int .i64 (clampR n lo hi)) ∧ w = w' := by
 rcases Int.lt_or_le n lo with h | h
 ·rcases Int.lt_or_le hi lo with h2 | h2
  ·have HE := Lib.hid (show clampR n lo hi = hi by unfold clampR; omega)
   go_enter Tryz.func87, Tryz.ntmps87
   go_wp2
   go_ret
   exact ⟨ret_int HE.out.symm, rfl⟩
  ·have HE := Lib.hid (show clampR n lo hi = lo by unfold clampR; omega)
   go_enter Tryz.func87, Tryz.ntmps87
   go_wp2
   go_ret
   exact ⟨ret_int HE.out.symm, rfl⟩
 ·rcases Int.lt_or_le hi n with h2 | h2
  ·have HE := Lib.hid (show clampR n lo hi = hi by unfold clampR; omega)
   go_enter Tryz.func87, Tryz.ntmps87
   go_wp2
   go_ret
   exact ⟨ret_int HE.out.symm, rfl⟩
  ·have HE := Lib.hid (show clampR n lo hi = n by unfold clampR; omega)
   go_enter Tryz.func87, Tryz.ntmps87
   go_wp2
   go_ret
   exact ⟨ret_int HE.out.symm, rfl⟩
theorem next_of {t i t' : Int} {n x c m : Nat} (ht : clampR t 0 1125899906842624 = t') (hi : clampR i 0 1073741824 = n) (hx : invN c = x) (hm : n * x = m) : nextN t i c = t' + m / 4294967296 := by
 unfold nextN nextR stepR
 rw [ht, hi, hx, Int.toNat_natCast, hm]
 rfl
theorem prod_le {n x : Nat} (hn : n ≤ 1073741824) (hx : x ≤ 4294967296) : n * x ≤ 4611686018427387904 := Nat.le_trans (Nat.mul_le_mul hn hx) (by decide)
set_option maxRecDepth 100000 in
theorem refnext_any (t i : Int) (c : Nat) (w : World) (hc : c < 4294967296) :
 Calls Tryz.prog 89 #[.int .i64 t, .int .i64 i, .int .u32 c] w fun e w' => e = .returned (.int .i64 (nextN t i c)) ∧ w = w' := by
 have HC := Lib.hid hc
 clear hc
 obtain ⟨n, hn⟩ := Int.eq_ofNat_of_zero_le (clamp_in (n := i) (low := 0) (high := 1073741824) (by decide)).1
 have hn1 : n ≤ 1073741824 := by have := (clamp_in (n := i) (low := 0) (high := 1073741824) (by decide)).2; omega
 obtain ⟨s, hs⟩ := Int.eq_ofNat_of_zero_le (clamp_in (n := t) (low := 0) (high := 1125899906842624) (by decide)).1
 have hs1 : s ≤ 1125899906842624 := by have := (clamp_in (n := t) (low := 0) (high := 1125899906842624) (by decide)).2; omega
 have hx := invN_le c
 obtain ⟨m, hm⟩ : ∃ m, n * invN c = m := ⟨_, rfl⟩
 have hm1 : m ≤ 4611686018427387904 := by rw [← hm]; exact prod_le hn1 hx
 have HE := Lib.hid (next_of hs hn rfl hm)
 have HS := Lib.hid hs
 have HN := Lib.hid hn
 have HM := Lib.hid hm
 have HX := Lib.hid hx
 have HN1 := Lib.hid hn1
 have hmI : (m : Int) ≤ 4611686018427387904 := by omega
 have hnI : (n : Int) ≤ 1073741824 := by omega
 have hsI : (s : Int) ≤ 1125899906842624 := by omega
 have hor : bits .or .u64 0 ((m : Int) / 4294967296) = (m : Int) / 4294967296 := by
  have e := bits_or_u64_nat 0 (m / 4294967296) (by omega) (by omega)
  rw [Nat.zero_or] at e
  exact e
 clear hs hn hm hx hn1 hs1 hm1
 go_enter Tryz.func89, Tryz.ntmps89
 go_wp2_with (fail)
 refine (clamp_any i 0 1073741824 _).mono ?_
 rintro e w1 ⟨rfl, rfl⟩
 rw [HN.out]
 go_wp2_with (fail)
 refine (refinv_any c _ HC.out).mono ?_
 rintro e w1 ⟨rfl, rfl⟩
 go_wp2_with (fail)
 refine (mul64_any n (invN c) _ HN1.out HX.out).mono ?_
 rintro e w1 ⟨rfl, rfl⟩
 rw [HM.out]
 go_wp2_with (fail)
 refine (clamp_any t 0 1125899906842624 _).mono ?_
 rintro e w1 ⟨rfl, rfl⟩
 rw [HS.out]
 go_wp2
 go_ret
 exact ⟨ret_int HE.out.symm, rfl⟩
set_option maxRecDepth 100000 in
theorem next_any (t i : Int) (c : Nat) (w : World) (hc : c < 4294967296) :
 Calls Tryz.prog 103 #[.int .i64 t, .int .i64 i, .int .u32 c] w fun e w' => e = .returned (.int .i64 (nextN t i c)) ∧ w = w' := by
 have HC := Lib.hid hc
 have hx := invN_le c
 clear hc
 rcases (by omega : t < 0 ∨ (0 ≤ t ∧ t ≤ 1125899906842624) ∨ 1125899906842624 < t) with ht | ht | ht
 ·have HT := Lib.hid (show clampR t 0 1125899906842624 = 0 by unfold clampR; omega)
  have h1 : t < 0 := by omega
  rcases (by omega : i < 0 ∨ (0 ≤ i ∧ i ≤ 1073741824) ∨ 1073741824 < i) with hi | hi | hi
  ·have HI := Lib.hid (show clampR i 0 1073741824 = ((0 : Nat) : Int) by unfold clampR; omega)
   have g1 : i < 0 := by omega
   obtain ⟨x, hxe⟩ : ∃ x, invN c = x := ⟨_, rfl⟩
   rw [hxe] at hx
   have HXE := Lib.hid hxe
   have hm : 0 * x = 0 * x := rfl
   have HE := Lib.hid (next_of HT.out HI.out hxe hm)
   have hxI : (x : Int) ≤ 4294967296 := by omega
   clear ht hi hx hxe hm
   go_enter Tryz.func103, Tryz.ntmps103
   go_wp2_with (fail)
   refine (inv_any c _ HC.out).mono ?_
   rintro e w1 ⟨rfl, rfl⟩
   rw [HXE.out]
   go_wp2
   go_ret
   refine ⟨ret_int ?_, rfl⟩
   rw [HE.out]
   try omega
  ·obtain ⟨n, rfl⟩ := Int.eq_ofNat_of_zero_le hi.1
   have HI := Lib.hid (show clampR (n : Int) 0 1073741824 = ((n : Nat) : Int) by unfold clampR; omega)
   have g1 : ¬ (n : Int) < 0 := by omega
   have g2 : ¬ (1073741824 : Int) < (n : Int) := by omega
   obtain ⟨x, hxe⟩ : ∃ x, invN c = x := ⟨_, rfl⟩
   rw [hxe] at hx
   have HXE := Lib.hid hxe
   obtain ⟨m, hm⟩ : ∃ m, n * x = m := ⟨_, rfl⟩
   have hm1 : m ≤ 4611686018427387904 := by rw [← hm]; exact prod_le (by omega) hx
   have hmI : (m : Int) ≤ 4611686018427387904 := by omega
   have hmul : (n : Int) * (x : Int) = (m : Int) := by rw [← hm, Int.natCast_mul]
   have HE := Lib.hid (next_of HT.out HI.out hxe hm)
   have hxI : (x : Int) ≤ 4294967296 := by omega
   clear ht hi hx hxe hm hm1
   go_enter Tryz.func103, Tryz.ntmps103
   go_wp2_with (fail)
   refine (inv_any c _ HC.out).mono ?_
   rintro e w1 ⟨rfl, rfl⟩
   rw [HXE.out]
   go_wp2
   go_ret
   refine ⟨ret_int ?_, rfl⟩
   rw [HE.out]
   try omega
  ·have HI := Lib.hid (show clampR i 0 1073741824 = ((1073741824 : Nat) : Int) by unfold clampR; omega)
   have g1 : ¬ i < 0 := by omega
   have g2 : 1073741824 < i := by omega
   obtain ⟨x, hxe⟩ : ∃ x, invN c = x := ⟨_, rfl⟩
   rw [hxe] at hx
   have HXE := Lib.hid hxe
   have hm : 1073741824 * x = 1073741824 * x := rfl
   have HE := Lib.hid (next_of HT.out HI.out hxe hm)
   have hxI : (x : Int) ≤ 4294967296 := by omega
   clear ht hi hx hxe hm
   go_enter Tryz.func103, Tryz.ntmps103
   go_wp2_with (fail)
   refine (inv_any c _ HC.out).mono ?_
   rintro e w1 ⟨rfl, rfl⟩
   rw [HXE.out]
   go_wp2
   go_ret
   refine ⟨ret_int ?_, rfl⟩
   rw [HE.out]
   try omega
 ·have HT := Lib.hid (show clampR t 0 1125899906842624 = t by unfold clampR; omega)
  have h1 : ¬ t < 0 := by omega
  have h2 : ¬ 1125899906842624 < t := by omega
  rcases (by omega : i < 0 ∨ (0 ≤ i ∧ i ≤ 1073741824) ∨ 1073741824 < i) with hi | hi | hi
  ·have HI := Lib.hid (show clampR i 0 1073741824 = ((0 : Nat) : Int) by unfold clampR; omega)
   have g1 : i < 0 := by omega
   obtain ⟨x, hxe⟩ : ∃ x, invN c = x := ⟨_, rfl⟩
   rw [hxe] at hx
   have HXE := Lib.hid hxe
   have hm : 0 * x = 0 * x := rfl
   have HE := Lib.hid (next_of HT.out HI.out hxe hm)
   have hxI : (x : Int) ≤ 4294967296 := by omega
   clear ht hi hx hxe hm
   go_enter Tryz.func103, Tryz.ntmps103
   go_wp2_with (fail)
   refine (inv_any c _ HC.out).mono ?_
   rintro e w1 ⟨rfl, rfl⟩
   rw [HXE.out]
   go_wp2
   go_ret
   refine ⟨ret_int ?_, rfl⟩
   rw [HE.out]
   try omega
  ·obtain ⟨n, rfl⟩ := Int.eq_ofNat_of_zero_le hi.1
   have HI := Lib.hid (show clampR (n : Int) 0 1073741824 = ((n : Nat) : Int) by unfold clampR; omega)
   have g1 : ¬ (n : Int) < 0 := by omega
   have g2 : ¬ (1073741824 : Int) < (n : Int) := by omega
   obtain ⟨x, hxe⟩ : ∃ x, invN c = x := ⟨_, rfl⟩
   rw [hxe] at hx
   have HXE := Lib.hid hxe
   obtain ⟨m, hm⟩ : ∃ m, n * x = m := ⟨_, rfl⟩
   have hm1 : m ≤ 4611686018427387904 := by rw [← hm]; exact prod_le (by omega) hx
   have hmI : (m : Int) ≤ 4611686018427387904 := by omega
   have hmul : (n : Int) * (x : Int) = (m : Int) := by rw [← hm, Int.natCast_mul]
   have HE := Lib.hid (next_of HT.out HI.out hxe hm)
   have hxI : (x : Int) ≤ 4294967296 := by omega
   clear ht hi hx hxe hm hm1
   go_enter Tryz.func103, Tryz.ntmps103
   go_wp2_with (fail)
   refine (inv_any c _ HC.out).mono ?_
   rintro e w1 ⟨rfl, rfl⟩
   rw [HXE.out]
   go_wp2
   go_ret
   refine ⟨ret_int ?_, rfl⟩
   rw [HE.out]
   try omega
  ·have HI := Lib.hid (show clampR i 0 1073741824 = ((1073741824 : Nat) : Int) by unfold clampR; omega)
   have g1 : ¬ i < 0 := by omega
   have g2 : 1073741824 < i := by omega
   obtain ⟨x, hxe⟩ : ∃ x, invN c = x := ⟨_, rfl⟩
   rw [hxe] at hx
   have HXE := Lib.hid hxe
   have hm : 1073741824 * x = 1073741824 * x := rfl
   have HE := Lib.hid (next_of HT.out HI.out hxe hm)
   have hxI : (x : Int) ≤ 4294967296 := by omega
   clear ht hi hx hxe hm
   go_enter Tryz.func103, Tryz.ntmps103
   go_wp2_with (fail)
   refine (inv_any c _ HC.out).mono ?_
   rintro e w1 ⟨rfl, rfl⟩
   rw [HXE.out]
   go_wp2
   go_ret
   refine ⟨ret_int ?_, rfl⟩
   rw [HE.out]
   try omega
 ·have HT := Lib.hid (show clampR t 0 1125899906842624 = 1125899906842624 by unfold clampR; omega)
  have h1 : ¬ t < 0 := by omega
  have h2 : 1125899906842624 < t := by omega
  rcases (by omega : i < 0 ∨ (0 ≤ i ∧ i ≤ 1073741824) ∨ 1073741824 < i) with hi | hi | hi
  ·have HI := Lib.hid (show clampR i 0 1073741824 = ((0 : Nat) : Int) by unfold clampR; omega)
   have g1 : i < 0 := by omega
   obtain ⟨x, hxe⟩ : ∃ x, invN c = x := ⟨_, rfl⟩
   rw [hxe] at hx
   have HXE := Lib.hid hxe
   have hm : 0 * x = 0 * x := rfl
   have HE := Lib.hid (next_of HT.out HI.out hxe hm)
   have hxI : (x : Int) ≤ 4294967296 := by omega
   clear ht hi hx hxe hm
   go_enter Tryz.func103, Tryz.ntmps103
   go_wp2_with (fail)
   refine (inv_any c _ HC.out).mono ?_
   rintro e w1 ⟨rfl, rfl⟩
   rw [HXE.out]
   go_wp2
   go_ret
   refine ⟨ret_int ?_, rfl⟩
   rw [HE.out]
   try omega
  ·obtain ⟨n, rfl⟩ := Int.eq_ofNat_of_zero_le hi.1
   have HI := Lib.hid (show clampR (n : Int) 0 1073741824 = ((n : Nat) : Int) by unfold clampR; omega)
   have g1 : ¬ (n : Int) < 0 := by omega
   have g2 : ¬ (1073741824 : Int) < (n : Int) := by omega
   obtain ⟨x, hxe⟩ : ∃ x, invN c = x := ⟨_, rfl⟩
   rw [hxe] at hx
   have HXE := Lib.hid hxe
   obtain ⟨m, hm⟩ : ∃ m, n * x = m := ⟨_, rfl⟩
   have hm1 : m ≤ 4611686018427387904 := by rw [← hm]; exact prod_le (by omega) hx
   have hmI : (m : Int) ≤ 4611686018427387904 := by omega
   have hmul : (n : Int) * (x : Int) = (m : Int) := by rw [← hm, Int.natCast_mul]
   have HE := Lib.hid (next_of HT.out HI.out hxe hm)
   have hxI : (x : Int) ≤ 4294967296 := by omega
   clear ht hi hx hxe hm hm1
   go_enter Tryz.func103, Tryz.ntmps103
   go_wp2_with (fail)
   refine (inv_any c _ HC.out).mono ?_
   rintro e w1 ⟨rfl, rfl⟩
   rw [HXE.out]
   go_wp2
   go_ret
   refine ⟨ret_int ?_, rfl⟩
   rw [HE.out]
   try omega
  ·have HI := Lib.hid (show clampR i 0 1073741824 = ((1073741824 : Nat) : Int) by unfold clampR; omega)
   have g1 : ¬ i < 0 := by omega
   have g2 : 1073741824 < i := by omega
   obtain ⟨x, hxe⟩ : ∃ x, invN c = x := ⟨_, rfl⟩
   rw [hxe] at hx
   have HXE := Lib.hid hxe
   have hm : 1073741824 * x = 1073741824 * x := rfl
   have HE := Lib.hid (next_of HT.out HI.out hxe hm)
   have hxI : (x : Int) ≤ 4294967296 := by omega
   clear ht hi hx hxe hm
   go_enter Tryz.func103, Tryz.ntmps103
   go_wp2_with (fail)
   refine (inv_any c _ HC.out).mono ?_
   rintro e w1 ⟨rfl, rfl⟩
   rw [HXE.out]
   go_wp2
   go_ret
   refine ⟨ret_int ?_, rfl⟩
   rw [HE.out]
   try omega
end Go.Proofs.YtndkmgcmegcieaaGreatDoor
/-
  MATHS OF A MIX OF 32 BITS: it is one-to-one. No program is named.
-/
namespace Go.Proofs.YtndkmgcmegcieaaGreatDoor
open Go.ChangeShapes Go.WideShapes Go.ChangeAt Go.RowKit
set_option linter.unusedVariables false
set_option linter.unusedSimpArgs false
def uv (a : BitVec 32) : Int := (a.toNat : Int)
theorem uv_lo (a : BitVec 32) : 0 ≤ uv a := Int.natCast_nonneg _
theorem uv_hi (a : BitVec 32) : uv a ≤ 4294967295 := by have := a.isLt; unfold uv; omega
theorem uv_of {v : Int} (h0 : 0 ≤ v) (h1 : v ≤ 4294967295) : ∃ a : BitVec 32, uv a = v := by
 obtain ⟨n, rfl⟩ := Int.eq_ofNat_of_zero_le h0
 refine ⟨BitVec.ofNat 32 n, ?_⟩
 unfold uv
 rw [BitVec.toNat_ofNat]
 omega
def fold16 (x : BitVec 32) : BitVec 32 := x ^^^ (x >>> 16)
def mixB (f s : BitVec 32) : BitVec 32 := fold16 (fold16 (fold16 (f ^^^ s) * 73244475#32) * 73244475#32)
theorem ofInt_uv (a : BitVec 32) : BitVec.ofInt 32 (uv a) = a := by
 unfold uv
 apply BitVec.eq_of_toNat_eq
 rw [BitVec.toNat_ofInt]
 have := a.isLt
 omega
theorem wrap_uv (a : BitVec 32) : IntKind.u32.wrap (uv a) = uv a := by
 have h1 := uv_lo a
 have h2 := uv_hi a
 exact IntWalk.u32_in _ ⟨by omega, by omega⟩
theorem xor_uv (a b : BitVec 32) : bits .xor .u32 (uv a) (uv b) = uv (a ^^^ b) := by
 show IntKind.u32.wrap ((BitVec.ofInt 32 (uv a) ^^^ BitVec.ofInt 32 (uv b)).toNat : Int) = _
 rw [ofInt_uv, ofInt_uv]
 exact wrap_uv (a ^^^ b)
theorem shr_uv (a : BitVec 32) : uv a / (65536 : Int) = uv (a >>> 16) := by
 unfold uv
 rw [BitVec.toNat_ushiftRight, Nat.shiftRight_eq_div_pow]
 omega
theorem mul_uv (a : BitVec 32) : IntKind.u32.wrap (uv a * 73244475) = uv (a * 73244475#32) := by
 rw [IntKind.wrap_u32]
 unfold uv
 rw [BitVec.toNat_mul]
 show (a.toNat : Int) * 73244475 % 4294967296 = ((a.toNat * 73244475 % 2 ^ 32 : Nat) : Int)
 omega
end Go.Proofs.YtndkmgcmegcieaaGreatDoor
/-
  CONTRACTS of hash.Mix, hash.Bucket, of the reference's, and of the chapter's examples.
-/
namespace Go.Proofs.YtndkmgcmegcieaaGreatDoor
open Go.ChangeShapes Go.WideShapes Go.ChangeAt Go.RowKit
set_option linter.unusedVariables false
set_option linter.unusedSimpArgs false
def bkt (a b : BitVec 32) : Nat := (mixB a b).toNat % 16
theorem bkt_lt (a b : BitVec 32) : bkt a b < 16 := Nat.mod_lt _ (by decide)
theorem bkt_uv (a b : BitVec 32) : uv (mixB a b) % 16 = ((bkt a b : Nat) : Int) := by unfold uv bkt; omega
set_option maxRecDepth 100000 in
theorem fold_any (a : BitVec 32) (w : World) :
 Calls Tryz.prog 93 #[.int .u32 (uv a)] w fun e w' => e = .returned (.int .u32 (uv (fold16 a))) ∧ w = w' := by
 have S1 := shr_uv a
 have X1 := xor_uv a (a >>> 16)
 have B0 := uv_lo a
 have B1 := uv_hi a
 have HE := Shut.mk (show uv (fold16 a) = uv (a ^^^ (a >>> 16)) from rfl)
 generalize uv (fold16 a) = r at *
 generalize uv (a ^^^ a >>> 16) = y at *
 generalize uv (a >>> 16) = z at *
 generalize uv a = x at *
 go_enter Tryz.func93, Tryz.ntmps93
 go_wp2
 go_ret
 exact ⟨ret_int HE.out.symm, rfl⟩
set_option maxRecDepth 100000 in
theorem mix_any (a b : BitVec 32) (w : World) :
 Calls Tryz.prog 77 #[.int .u32 (uv a), .int .u32 (uv b)] w fun e w' => e = .returned (.int .u32 (uv (mixB a b))) ∧ w = w' := by
 have X0 := Shut.mk (xor_uv a b)
 obtain ⟨x1, h1⟩ : ∃ x, a ^^^ b = x := ⟨_, rfl⟩
 obtain ⟨x2, h2⟩ : ∃ x, fold16 x1 = x := ⟨_, rfl⟩
 obtain ⟨x3, h3⟩ : ∃ x, x2 * 73244475#32 = x := ⟨_, rfl⟩
 obtain ⟨x4, h4⟩ : ∃ x, fold16 x3 = x := ⟨_, rfl⟩
 obtain ⟨x5, h5⟩ : ∃ x, x4 * 73244475#32 = x := ⟨_, rfl⟩
 obtain ⟨x6, h6⟩ : ∃ x, fold16 x5 = x := ⟨_, rfl⟩
 have M2 : IntKind.u32.wrap (uv x2 * 73244475) = uv x3 := by rw [mul_uv, h3]
 have M4 : IntKind.u32.wrap (uv x4 * 73244475) = uv x5 := by rw [mul_uv, h5]
 have HE := Shut.mk (show mixB a b = x6 by unfold mixB; rw [h1, h2, h3, h4, h5, h6])
 rw [HE.out]
 rw [h1] at X0
 have Y0 := X0.out
 go_enter Tryz.func77, Tryz.ntmps77
 go_wp2_with (fail)
 refine (fold_any x1 _).mono ?_
 rintro e w1 ⟨rfl, rfl⟩
 rw [h2]
 go_wp2_with (fail)
 refine (fold_any x3 _).mono ?_
 rintro e w1 ⟨rfl, rfl⟩
 rw [h4]
 go_wp2_with (fail)
 refine (fold_any x5 _).mono ?_
 rintro e w1 ⟨rfl, rfl⟩
 rw [h6]
 go_wp2
 go_ret
 exact ⟨rfl, rfl⟩
set_option maxRecDepth 100000 in
theorem refmix_any (a b : BitVec 32) (w : World) :
 Calls Tryz.prog 83 #[.int .u32 (uv a), .int .u32 (uv b)] w fun e w' => e = .returned (.int .u32 (uv (mixB a b))) ∧ w = w' := by
 have X0 := Shut.mk (xor_uv a b)
 obtain ⟨x1, h1⟩ : ∃ x, a ^^^ b = x := ⟨_, rfl⟩
 obtain ⟨x2, h2⟩ : ∃ x, fold16 x1 = x := ⟨_, rfl⟩
 obtain ⟨x3, h3⟩ : ∃ x, x2 * 73244475#32 = x := ⟨_, rfl⟩
 obtain ⟨x4, h4⟩ : ∃ x, fold16 x3 = x := ⟨_, rfl⟩
 obtain ⟨x5, h5⟩ : ∃ x, x4 * 73244475#32 = x := ⟨_, rfl⟩
 obtain ⟨x6, h6⟩ : ∃ x, fold16 x5 = x := ⟨_, rfl⟩
 have M2 : IntKind.u32.wrap (uv x2 * 73244475) = uv x3 := by rw [mul_uv, h3]
 have M4 : IntKind.u32.wrap (uv x4 * 73244475) = uv x5 := by rw [mul_uv, h5]
 have HE := Shut.mk (show mixB a b = x6 by unfold mixB; rw [h1, h2, h3, h4, h5, h6])
 rw [HE.out]
 rw [h1] at X0
 have Y0 := X0.out
 have F1 : bits .xor .u32 (uv x1) (uv x1 / 65536) = uv x2 := by rw [shr_uv, xor_uv, ← h2]; rfl
 have F3 : bits .xor .u32 (uv x3) (uv x3 / 65536) = uv x4 := by rw [shr_uv, xor_uv, ← h4]; rfl
 have F5 : bits .xor .u32 (uv x5) (uv x5 / 65536) = uv x6 := by rw [shr_uv, xor_uv, ← h6]; rfl
 clear HE h1 h2 h3 h4 h5 h6
 have a0 := uv_lo x1
 have a1 := uv_hi x1
 have a2 := uv_lo x2
 have a3 := uv_hi x2
 have a4 := uv_lo x3
 have a5 := uv_hi x3
 have a6 := uv_lo x4
 have a7 := uv_hi x4
 have a8 := uv_lo x5
 have a9 := uv_hi x5
 go_enter Tryz.func83, Tryz.ntmps83
 go_wp2_with (fail)
 go_ret
 exact ⟨ret_int (by simp only [Y0, F1, M2, F3, M4, F5]), rfl⟩
set_option maxRecDepth 100000 in
theorem bucket_any (a b : BitVec 32) (w : World) :
 Calls Tryz.prog 54 #[.int .u32 (uv a), .int .u32 (uv b)] w fun e w' => e = .returned (.int .i64 (bkt a b : Nat)) ∧ w = w' := by
 have HB := Shut.mk (bkt_uv a b)
 have B0 := uv_lo (mixB a b)
 have B1 := uv_hi (mixB a b)
 go_enter Tryz.func54, Tryz.ntmps54
 go_wp2_with (fail)
 refine (mix_any a b _).mono ?_
 rintro e w1 ⟨rfl, rfl⟩
 generalize uv (mixB a b) = x at *
 go_wp2
 go_ret
 exact ⟨ret_int HB.out, rfl⟩
set_option maxRecDepth 100000 in
theorem refbucket_any (a b : BitVec 32) (w : World) :
 Calls Tryz.prog 60 #[.int .u32 (uv a), .int .u32 (uv b)] w fun e w' => e = .returned (.int .i64 (bkt a b : Nat)) ∧ w = w' := by
 have HB := Shut.mk (bkt_uv a b)
 have B0 := uv_lo (mixB a b)
 have B1 := uv_hi (mixB a b)
 go_enter Tryz.func60, Tryz.ntmps60
 go_wp2_with (fail)
 refine (refmix_any a b _).mono ?_
 rintro e w1 ⟨rfl, rfl⟩
 generalize uv (mixB a b) = x at *
 go_wp2
 go_ret
 exact ⟨ret_int HB.out, rfl⟩
end Go.Proofs.YtndkmgcmegcieaaGreatDoor
/-
  MATHS OF THE FIRST GREATEST: as a loop finds it; that it is one; by parts; the fattest flow of a queue, of all queues. No program is named.
-/
namespace Go.Proofs.YtndkmgcmegcieaaGreatDoor
set_option linter.unusedVariables false
set_option linter.unusedSimpArgs false
def IsBest (f : Nat → Int) (ok : Nat → Bool) (n i : Nat) : Prop := i < n ∧ ok i = true ∧ (∀ j, j < n → ok j = true → f j ≤ f i) ∧ ∀ j, j < i → ok j = true → f j < f i
theorem best_one {f : Nat → Int} {ok : Nat → Bool} {n i j : Nat} (h1 : IsBest f ok n i) (h2 : IsBest f ok n j) : i = j := by
 obtain ⟨a1, a2, a3, a4⟩ := h1
 obtain ⟨b1, b2, b3, b4⟩ := h2
 rcases Nat.lt_trichotomy i j with h | h | h
 ·have := b4 i h a2
  have := a3 j b1 b2
  omega
 ·exact h
 ·have := a4 j h b2
  have := b3 i a1 a2
  omega
def Best (f : Nat → Int) (ok : Nat → Bool) (n : Nat) : Option Nat → Prop
 | none => ∀ j, j < n → ok j = false
 | some i => IsBest f ok n i
theorem best_zero (f : Nat → Int) (ok : Nat → Bool) : Best f ok 0 none := fun j hj => by omega
theorem best_skip {f : Nat → Int} {ok : Nat → Bool} {n : Nat} {o : Option Nat} (h : Best f ok n o) (hn : ok n = false) : Best f ok (n + 1) o := by
 cases o with
 | none =>
  intro j hj
  by_cases e : j = n
  ·subst e; exact hn
  ·exact h j (by omega)
 | some i =>
  obtain ⟨a1, a2, a3, a4⟩ := h
  refine ⟨by omega, a2, fun j hj ho => ?_, a4⟩
  by_cases e : j = n
  ·subst e; rw [hn] at ho; cases ho
  ·exact a3 j (by omega) ho
theorem best_first {f : Nat → Int} {ok : Nat → Bool} {n : Nat} (h : Best f ok n none) (hn : ok n = true) : Best f ok (n + 1) (some n) := by
 refine ⟨by omega, hn, fun j hj ho => ?_, fun j hj ho => ?_⟩
 ·by_cases e : j = n
  ·subst e; exact Int.le_refl _
  ·have := h j (by omega); rw [this] at ho; cases ho
 ·have := h j hj; rw [this] at ho; cases ho
theorem best_keep {f : Nat → Int} {ok : Nat → Bool} {n i : Nat} (h : Best f ok n (some i)) (hf : f n ≤ f i) : Best f ok (n + 1) (some i) := by
 obtain ⟨a1, a2, a3, a4⟩ := h
 refine ⟨by omega, a2, fun j hj ho => ?_, a4⟩
 by_cases e : j = n
 ·subst e; exact hf
 ·exact a3 j (by omega) ho
theorem best_more {f : Nat → Int} {ok : Nat → Bool} {n i : Nat} (h : Best f ok n (some i)) (hn : ok n = true) (hf : f i < f n) : Best f ok (n + 1) (some n) := by
 obtain ⟨a1, a2, a3, a4⟩ := h
 refine ⟨by omega, hn, fun j hj ho => ?_, fun j hj ho => ?_⟩
 ·by_cases e : j = n
  ·subst e; exact Int.le_refl _
  ·have := a3 j (by omega) ho; omega
 ·have := a3 j hj ho; omega
theorem best_opt {f : Nat → Int} {ok : Nat → Bool} {n : Nat} {a b : Option Nat} (h1 : Best f ok n a) (h2 : Best f ok n b) : a = b := by
 cases a with
 | none =>
  cases b with
  | none => rfl
  | some j => have := h1 j h2.1; rw [h2.2.1] at this; cases this
 | some i =>
  cases b with
  | none => have := h2 i h1.1; rw [h1.2.1] at this; cases this
  | some j => rw [best_one h1 h2]
def okF (q : Qu) (b : Nat) : Bool := !(q.fl b).pk.isEmpty
def fatF (q : Qu) (b : Nat) : Int := bytesF (q.fl b).pk
def IsFat (q : Qu) (o : Option Nat) : Prop := Best (fatF q) (okF q) 16 o
theorem bytesF_nonneg : ∀ l : List Pk, 0 ≤ bytesF l
 | [] => Int.le_refl _
 | p :: r => by rw [bytesF_cons]; have := bytesF_nonneg r; omega
end Go.Proofs.YtndkmgcmegcieaaGreatDoor
