/-
  MATHS OF WHAT IS UNDER WAY: of each station, of all; its bounds; what comes and goes leaves nothing. No program is named.
-/
import Derived.Test.YtlchfmjpachgfaaDoorRows
namespace Go.Proofs.YtlchfmjpachgfaaDoor
set_option linter.unusedVariables false
set_option linter.unusedSimpArgs false

theorem sum_set : ∀ (l : List Int) (i : Nat) (v : Int), i < l.length → (l.set i v).sum = l.sum - l.getD i 0 + v
  | [], i, v, h => by simp at h
  | x :: r, 0, v, h => by simp; omega
  | x :: r, i + 1, v, h => by
    have := sum_set r i v (by simpa using h)
    simp only [List.set_cons_succ, List.sum_cons, List.getD_cons_succ]
    omega
theorem getD_set (l : List Int) (i k : Nat) (v : Int) (h : i < l.length) : (l.set i v).getD k 0 = if k = i then v else l.getD k 0 := by
  unfold List.getD
  rw [List.getElem?_set]
  by_cases e : i = k
  · subst e; simp [h]
  · rw [if_neg e, if_neg fun h : k = i => e h.symm]
theorem sum_nonneg : ∀ l : List Int, (∀ x ∈ l, 0 ≤ x) → 0 ≤ l.sum
  | [], _ => Int.le_refl _
  | x :: r, h => by have := sum_nonneg r fun y hy => h y (List.mem_cons_of_mem _ hy); have := h x List.mem_cons_self; simp only [List.sum_cons]; omega
theorem getD_le_sum : ∀ (l : List Int) (i : Nat), (∀ x ∈ l, 0 ≤ x) → l.getD i 0 ≤ l.sum
  | [], i, _ => by simp
  | x :: r, 0, h => by have := sum_nonneg r fun y hy => h y (List.mem_cons_of_mem _ hy); simp; omega
  | x :: r, i + 1, h => by
    have := getD_le_sum r i fun y hy => h y (List.mem_cons_of_mem _ hy)
    have := h x List.mem_cons_self
    simp only [List.getD_cons_succ, List.sum_cons]; omega
theorem getD_nonneg {l : List Int} (h : ∀ x ∈ l, 0 ≤ x) (i : Nat) : 0 ≤ l.getD i 0 := by
  by_cases hi : i < l.length
  · have : l.getD i 0 = l[i] := by simp [List.getD, hi]
    rw [this]; exact h _ (List.getElem_mem hi)
  · have : l.getD i 0 = 0 := by simp [List.getD, List.getElem?_eq_none (Nat.le_of_not_lt hi)]
    omega

structure Aq where
  st : Int
  wh : Int
  of : List Int
def newA (st wh : Int) : Aq := ⟨st, wh, List.replicate 17 0⟩
def aidB (a : Int) : Bool := decide (1 ≤ a) && decide (a ≤ 16)
def airB (n : Int) : Bool := decide (0 ≤ n) && decide (n ≤ 1099511627776)
def allA (q : Aq) : Int := q.of.sum
def ofA (q : Aq) (a : Int) : Int := if aidB a = true then q.of.getD a.toNat 0 else 0
def mayA (q : Aq) (a : Int) : Bool := aidB a && (decide (ofA q a = 0) || decide (ofA q a < q.st) && decide (allA q < q.wh))
def putA (q : Aq) (a : Int) (v : Int) : Aq := ⟨q.st, q.wh, q.of.set a.toNat v⟩
def addA (q : Aq) (a n : Int) : Aq × Nat := if aidB a = true ∧ airB n = true then (putA q a (ofA q a + n), 0) else (q, 103)
def subA (q : Aq) (a n : Int) : Aq × Nat := if aidB a = true ∧ airB n = true then if ofA q a < n then (q, 110) else (putA q a (ofA q a - n), 0) else (q, 103)
def clearA (q : Aq) (a : Int) : Aq := if aidB a = true then putA q a 0 else q
theorem aidB_iff {a : Int} : aidB a = true ↔ 1 ≤ a ∧ a ≤ 16 := by unfold aidB; simp
structure InvA (q : Aq) : Prop where
  len : q.of.length = 17
  pos : ∀ x ∈ q.of, 0 ≤ x
  none : q.of.getD 0 0 = 0
theorem invA_new (st wh : Int) : InvA (newA st wh) := ⟨rfl, fun x hx => by rw [List.eq_of_mem_replicate hx]; exact Int.le_refl _, rfl⟩
theorem ofA_new (st wh : Int) (a : Int) : ofA (newA st wh) a = 0 := by
  unfold ofA newA
  split
  · rename_i h
    have := aidB_iff.1 h
    have h1 : a.toNat < 17 := by omega
    dsimp only
    unfold List.getD
    rw [List.getElem?_replicate, if_pos h1]
    rfl
  · rfl
theorem allA_new (st wh : Int) : allA (newA st wh) = 0 := rfl
theorem invA_put {q : Aq} {a v : Int} (h : InvA q) (ha : aidB a = true) (hv : 0 ≤ v) : InvA (putA q a v) := by
  have h1 := aidB_iff.1 ha
  have hl := h.len
  refine ⟨by show (q.of.set a.toNat v).length = 17; rw [List.length_set]; exact hl, fun x hx => ?_, ?_⟩
  · rcases List.mem_or_eq_of_mem_set hx with hx | hx
    · exact h.pos x hx
    · rw [hx]; exact hv
  · show (q.of.set a.toNat v).getD 0 0 = 0
    rw [getD_set _ _ _ _ (by omega), if_neg (by omega)]
    exact h.none
theorem ofA_put {q : Aq} {a b v : Int} (h : InvA q) (ha : aidB a = true) : ofA (putA q a v) b = if b = a then v else ofA q b := by
  have h1 := aidB_iff.1 ha
  have hl := h.len
  unfold ofA putA
  dsimp only
  by_cases hb : aidB b = true
  · have h2 := aidB_iff.1 hb
    rw [if_pos hb, if_pos hb, getD_set _ _ _ _ (by omega)]
    by_cases e : b = a
    · rw [if_pos e, if_pos (by rw [e])]
    · rw [if_neg e, if_neg (by omega)]
  · rw [if_neg hb, if_neg hb, if_neg (fun e : b = a => hb (by rw [e]; exact ha))]
theorem allA_put {q : Aq} {a v : Int} (h : InvA q) (ha : aidB a = true) : allA (putA q a v) = allA q - ofA q a + v := by
  have h1 := aidB_iff.1 ha
  have hl := h.len
  unfold allA putA ofA
  dsimp only
  rw [if_pos ha, sum_set _ _ _ (by omega)]
theorem ofA_nonneg {q : Aq} (h : InvA q) (a : Int) : 0 ≤ ofA q a := by
  unfold ofA
  split
  · exact getD_nonneg h.pos _
  · exact Int.le_refl _
theorem ofA_le {q : Aq} (h : InvA q) (a : Int) : ofA q a ≤ allA q := by
  unfold ofA allA
  split
  · exact getD_le_sum _ _ h.pos
  · exact sum_nonneg _ h.pos
theorem ofA_no {q : Aq} {a : Int} (ha : aidB a = false) : ofA q a = 0 := by unfold ofA; rw [if_neg (by simp [ha])]

/-! ### as long as each asks ahead -/
def nzN (l : List Int) : Nat := (l.filter fun x => x != 0).length
theorem nz_set : ∀ (l : List Int) (i : Nat) (v : Int), i < l.length → nzN l ≤ nzN (l.set i v) + (if l.getD i 0 = 0 then 0 else 1) ∧ (l.getD i 0 = 0 → v ≠ 0 → nzN (l.set i v) = nzN l + 1) ∧ (l.getD i 0 ≠ 0 → v ≠ 0 → nzN (l.set i v) = nzN l)
  | [], i, v, h => by simp at h
  | x :: r, 0, v, h => by
    unfold nzN
    simp only [List.set_cons_zero, List.getD_cons_zero, List.filter_cons]
    by_cases hx : x = 0 <;> by_cases hv : v = 0 <;> simp [hx, hv]
  | x :: r, i + 1, v, h => by
    obtain ⟨h1, h2, h3⟩ := nz_set r i v (by simpa using h)
    unfold nzN at *
    simp only [List.set_cons_succ, List.getD_cons_succ, List.filter_cons]
    by_cases hx : x = 0
    · simp [hx]; exact ⟨by simpa using h1, fun a b => by simpa using h2 a b, fun a b => by simpa using h3 a b⟩
    · simp [hx]
      have e : r[i]?.getD 0 = r.getD i 0 := by simp [List.getD]
      rw [e]
      refine ⟨by omega, fun a b => ?_, fun a b => ?_⟩
      · have := h2 a b; omega
      · have := h3 a b; omega
theorem nz_le : ∀ l : List Int, nzN l ≤ l.length := fun l => List.length_filter_le _ _
theorem nz_16 {q : Aq} (h : InvA q) : nzN q.of ≤ 16 := by
  have hl := h.len
  have h0 := h.none
  match e : q.of, hl with
  | x :: r, hl =>
    rw [e] at h0
    simp only [List.getD_cons_zero] at h0
    have : nzN (x :: r) = nzN r := by unfold nzN; simp [h0]
    rw [this]
    have := nz_le r
    simp only [List.length_cons] at hl
    omega
theorem nz_pos {q : Aq} {a : Int} (h : InvA q) (ha : aidB a = true) (hv : ofA q a ≠ 0) : 1 ≤ nzN q.of := by
  have h1 := aidB_iff.1 ha
  have hl := h.len
  unfold ofA at hv
  rw [if_pos ha] at hv
  have hm : q.of.getD a.toNat 0 ∈ q.of := by
    have : q.of.getD a.toNat 0 = q.of[a.toNat]'(by omega) := by simp [List.getD, show a.toNat < q.of.length by omega]
    rw [this]; exact List.getElem_mem _
  exact List.length_pos_of_mem (List.mem_filter.2 ⟨hm, by simpa using hv⟩)
structure AskI (q : Aq) : Prop where
  inv : InvA q
  each : ∀ a, ofA q a ≤ max q.st 1 + 998
  all : allA q ≤ q.wh + 999 * nzN q.of
  wh : 0 ≤ q.wh
theorem ask_new {st wh : Int} (h : 0 ≤ wh) : AskI (newA st wh) := ⟨invA_new _ _, fun a => by rw [ofA_new]; omega, by rw [allA_new]; show 0 ≤ wh + 999 * _; omega, h⟩
theorem ask_add {q : Aq} {a n : Int} (h : AskI q) (ha : aidB a = true) (hm : mayA q a = true) (h0 : 0 ≤ n) (h1 : n ≤ 999) : AskI (putA q a (ofA q a + n)) := by
  have hi := h.inv
  have hof := ofA_nonneg hi a
  have hal := h.all
  have hr := aidB_iff.1 ha
  have hl := hi.len
  unfold mayA at hm
  simp only [ha, Bool.true_and, Bool.or_eq_true, decide_eq_true_eq, Bool.and_eq_true] at hm
  have hget : ofA q a = q.of.getD a.toNat 0 := by unfold ofA; rw [if_pos ha]
  refine ⟨invA_put hi ha (by omega), fun b => ?_, ?_, h.wh⟩
  · rw [ofA_put hi ha]
    show _ ≤ max q.st 1 + 998
    split
    · rcases hm with e | ⟨e, -⟩ <;> omega
    · exact h.each b
  · rw [allA_put hi ha]
    show _ ≤ q.wh + 999 * (nzN (q.of.set a.toNat (ofA q a + n)) : Int)
    obtain ⟨s1, s2, s3⟩ := nz_set q.of a.toNat (ofA q a + n) (by omega)
    rw [← hget] at s1 s2 s3
    by_cases hn : n = 0
    · subst hn
      by_cases e : ofA q a = 0
      · rw [if_pos e] at s1; omega
      · have := s3 e (by omega); omega
    · by_cases e : ofA q a = 0
      · have := s2 e (by omega); omega
      · have hs := s3 e (by omega)
        have hp := nz_pos hi ha e
        rcases hm with e2 | ⟨-, e2⟩
        · exact absurd e2 e
        · omega
theorem ask_most {q : Aq} (h : AskI q) : allA q ≤ q.wh + 16000 := by have := h.all; have := nz_16 h.inv; omega

/-! ### what comes and is no more -/
/-- of a list of (station, air): a station's. -/
def totN (a : Int) (l : List (Int × Int)) : Int := ((l.filter fun p => p.1 == a).map fun p => p.2).sum
def sumN (l : List (Int × Int)) : Int := (l.map fun p => p.2).sum
theorem tot_snoc (a : Int) (l : List (Int × Int)) (p : Int × Int) : totN a (l ++ [p]) = totN a l + if p.1 = a then p.2 else 0 := by
  unfold totN
  rw [List.filter_append, List.map_append, List.sum_append]
  by_cases e : p.1 = a <;> simp [List.filter_cons, e]
theorem tot_cons (a : Int) (l : List (Int × Int)) (p : Int × Int) : totN a (p :: l) = (if p.1 = a then p.2 else 0) + totN a l := by
  unfold totN
  by_cases e : p.1 = a <;> simp [List.filter_cons, e]
theorem sum_snoc (l : List (Int × Int)) (p : Int × Int) : sumN (l ++ [p]) = sumN l + p.2 := by unfold sumN; simp
theorem tot_nonneg {a : Int} : ∀ {l : List (Int × Int)}, (∀ p ∈ l, 0 ≤ p.2) → 0 ≤ totN a l
  | [], _ => Int.le_refl _
  | p :: r, h => by
    rw [tot_cons]
    have := tot_nonneg (a := a) fun q hq => h q (List.mem_cons_of_mem _ hq)
    have := h p List.mem_cons_self
    split <;> omega
/-- behind what came. -/
structure CameI (q : Aq) (l : List (Int × Int)) : Prop where
  inv : InvA q
  of : ∀ a, aidB a = true → ofA q a = totN a l
  all : allA q = sumN l
theorem came_new (st wh : Int) : CameI (newA st wh) [] := ⟨invA_new _ _, fun a _ => by rw [ofA_new]; rfl, rfl⟩
theorem came_add {q : Aq} {l : List (Int × Int)} {a n : Int} (h : CameI q l) (ha : aidB a = true) (h0 : 0 ≤ n) : CameI (putA q a (ofA q a + n)) (l ++ [(a, n)]) := by
  have hof := ofA_nonneg h.inv a
  refine ⟨invA_put h.inv ha (by omega), fun b hb => ?_, ?_⟩
  · rw [ofA_put h.inv ha, tot_snoc, ← h.of b hb]
    by_cases e : b = a
    · rw [if_pos e, if_pos (show a = b from e.symm), e]
    · rw [if_neg e, if_neg (fun e2 : a = b => e e2.symm)]; omega
  · rw [allA_put h.inv ha, sum_snoc, ← h.all]; show _ = _ + n; omega
/-- behind one was cleared; the others go one by one. -/
structure GoneI (q : Aq) (who : Int) (l : List (Int × Int)) : Prop where
  inv : InvA q
  of : ∀ a, aidB a = true → ofA q a = if a = who then 0 else totN a l
theorem gone_clear {q : Aq} {who : Int} {l : List (Int × Int)} (h : CameI q l) (hw : aidB who = true) : GoneI (putA q who 0) who l ∧ allA (putA q who 0) = sumN l - totN who l :=
  ⟨⟨invA_put h.inv hw (Int.le_refl _), fun a ha => by rw [ofA_put h.inv hw]; split; · rfl
                                                      · exact h.of a ha⟩, by rw [allA_put h.inv hw, h.of who hw, h.all]; omega⟩
theorem gone_skip {q : Aq} {who n : Int} {l : List (Int × Int)} (h : GoneI q who ((who, n) :: l)) : GoneI q who l :=
  ⟨h.inv, fun a ha => by
    rw [h.of a ha, tot_cons]
    by_cases e : a = who
    · rw [if_pos e, if_pos e]
    · rw [if_neg e, if_neg e, if_neg (fun e2 : who = a => e e2.symm)]; omega⟩
theorem gone_sub {q : Aq} {who a n : Int} {l : List (Int × Int)} (h : GoneI q who ((a, n) :: l)) (ha : aidB a = true) (hne : a ≠ who) (h0 : 0 ≤ n) (hl : ∀ p ∈ l, 0 ≤ p.2) :
    n ≤ ofA q a ∧ GoneI (putA q a (ofA q a - n)) who l := by
  have e := h.of a ha
  rw [if_neg hne, tot_cons, if_pos rfl] at e
  have ht := tot_nonneg (a := a) hl
  have e' : ofA q a = n + totN a l := e
  refine ⟨by omega, invA_put h.inv ha (by omega), fun b hb => ?_⟩
  rw [ofA_put h.inv ha]
  by_cases eb : b = a
  · rw [if_pos eb, eb, if_neg hne]; omega
  · rw [if_neg eb, h.of b hb, tot_cons, if_neg (fun e2 : a = b => eb e2.symm)]
    split <;> omega
theorem sum_zero : ∀ l : List Int, (∀ x ∈ l, x = 0) → l.sum = 0
  | [], _ => rfl
  | x :: r, h => by have := sum_zero r fun y hy => h y (List.mem_cons_of_mem _ hy); have := h x List.mem_cons_self; simp only [List.sum_cons]; omega
theorem gone_end {q : Aq} {who : Int} (h : GoneI q who []) : allA q = 0 := by
  refine sum_zero _ fun x hx => ?_
  obtain ⟨i, hi, rfl⟩ := List.getElem_of_mem hx
  have hl := h.inv.len
  have hg : q.of.getD i 0 = q.of[i] := by simp [List.getD, hi]
  by_cases h0 : i = 0
  · have := h.inv.none
    subst h0
    omega
  · have hb : aidB (i : Int) = true := aidB_iff.2 ⟨by omega, by omega⟩
    have e := h.of i hb
    unfold ofA at e
    rw [if_pos hb, Int.toNat_natCast, hg] at e
    rw [e]
    split <;> rfl
end Go.Proofs.YtlchfmjpachgfaaDoor
