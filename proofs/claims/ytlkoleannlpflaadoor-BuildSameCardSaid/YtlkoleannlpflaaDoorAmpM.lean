/-
  MATHS OF FRAMES THAT GO TOGETHER: parts with delimiters, what is read of them, what a receiver finds. No program is named.
-/
import Derived.Test.YtlkoleannlpflaaDoorBRow
import Derived.Test.YtlkoleannlpflaaDoorCrcMath
namespace Go.Proofs.YtlkoleannlpflaaDoor
open Go.ChangeShapes Go.WideShapes Go.ChangeAt Go.RowKit
set_option linter.unusedVariables false
set_option linter.unusedSimpArgs false

/-! ### to pack -/
/-- a delimiter; a part with it; how many zeros follow; with them. -/
def dlm (n : Nat) : List Int := [(n : Int) * 16 % 256, (n : Int) * 16 / 256, sum [(n : Int) * 16 % 256, (n : Int) * 16 / 256], 78]
def bare (p : List Int) : List Int := dlm p.length ++ p
def pad (n : Nat) : Nat := (4 - n % 4) % 4
def unitP (p : List Int) : List Int := bare p ++ List.replicate (pad p.length) 0
def full : List (List Int) → List Int
  | [] => []
  | p :: r => unitP p ++ full r
def packB : List (List Int) → List Int
  | [] => []
  | [p] => bare p
  | p :: q :: r => unitP p ++ packB (q :: r)
def aggLen (lens : List Int) : Int := lens.foldl (fun n x => (n + 3) / 4 * 4 + 4 + max x 0) 0
theorem bare_len (p : List Int) : (bare p).length = 4 + p.length := by simp [bare, dlm]; omega
theorem unit_len (p : List Int) : (unitP p).length = 4 + p.length + pad p.length := by simp [unitP, bare_len]
theorem unit_mod (p : List Int) : (unitP p).length % 4 = 0 := by rw [unit_len]; unfold pad; omega
theorem full_mod : ∀ l : List (List Int), (full l).length % 4 = 0
  | [] => rfl
  | p :: r => by
    have h1 := unit_mod p
    have h2 := full_mod r
    rw [full, List.length_append]; omega
theorem full_append : ∀ l m : List (List Int), full (l ++ m) = full l ++ full m
  | [], m => rfl
  | p :: r, m => by rw [List.cons_append, full, full, full_append r m, List.append_assoc]
theorem full_snoc (l : List (List Int)) (p : List Int) : full (l ++ [p]) = full l ++ unitP p := by
  rw [full_append]; simp [full]
theorem packB_cons (p : List Int) (l : List (List Int)) (h : l ≠ []) : packB (p :: l) = unitP p ++ packB l := by
  cases l with
  | nil => exact absurd rfl h
  | cons q r => rfl
theorem packB_snoc : ∀ (l : List (List Int)) (p : List Int), packB (l ++ [p]) = full l ++ bare p
  | [], p => by simp [full, packB]
  | a :: r, p => by
    rw [List.cons_append, packB_cons a _ (by simp), packB_snoc r p, full, List.append_assoc]
theorem packB_all (l m : List (List Int)) (h : m ≠ []) : packB (l ++ m) = full l ++ packB m := by
  induction l with
  | nil => rfl
  | cons a r ih => rw [List.cons_append, packB_cons a _ (by simp [h]), ih, full, List.append_assoc]
theorem nil_or_snoc (l : List (List Int)) : l = [] ∨ ∃ r p, l = r ++ [p] := by
  rcases List.eq_nil_or_concat l with h | ⟨r, p, h⟩
  · exact .inl h
  · exact .inr ⟨r, p, by rw [h, List.concat_eq_append]⟩
/-- zeros to a multiple of 4 behind what is packed: all with their zeros. -/
theorem pack_full (l : List (List Int)) : packB l ++ List.replicate (pad (packB l).length) 0 = full l := by
  rcases nil_or_snoc l with rfl | ⟨r, p, rfl⟩
  · rfl
  · rw [packB_snoc, full_snoc, unitP, List.append_assoc]
    congr 2
    have h := full_mod r
    rw [List.length_append, bare_len]
    unfold pad
    congr 1
    omega
theorem full_of_pack (l : List (List Int)) : (full l).length = (packB l).length + pad (packB l).length := by
  rw [← pack_full l]; simp
theorem aggLen_snoc (l : List Int) (x : Int) : aggLen (l ++ [x]) = (aggLen l + 3) / 4 * 4 + 4 + max x 0 := by simp [aggLen]
theorem packB_len (l : List (List Int)) : aggLen (l.map fun p => (p.length : Int)) = ((packB l).length : Int) := by
  induction h : l.length generalizing l with
  | zero => rw [List.eq_nil_of_length_eq_zero h]; rfl
  | succ k ih =>
    rcases nil_or_snoc l with rfl | ⟨r, p, rfl⟩
    · simp at h
    · have hk : r.length = k := by simp at h; omega
      rw [List.map_append, List.map_cons, List.map_nil, aggLen_snoc, ih r hk, packB_snoc, List.length_append, bare_len, full_of_pack]
      unfold pad
      omega
/-- which parts may be. -/
def okP (p : List Int) : Bool := decide (1 ≤ p.length) && decide (p.length ≤ 4095)
def codeP (l : List (List Int)) : Nat := if l = [] ∨ l.any (fun p => !okP p) = true then 103 else if 64 < l.length ∨ 65535 < (packB l).length then 104 else 0

/-! ### what a receiver finds -/
/-- the length that a delimiter says; is it one? -/
def lenD (r : List Int) : Nat := ((r.getD 0 0 + r.getD 1 0 * 256) / 16).toNat
def goodD (r : List Int) : Bool := sum (r.take 2) == r.getD 2 0 && r.getD 3 0 == 78 && r.getD 0 0 % 16 == 0 && decide (0 < lenD r) && decide (lenD r + 4 ≤ r.length)
def unpackR (r : List Int) : List (List Int) :=
  if h : r.length < 4 then [] else if goodD r = true then (r.drop 4).take (lenD r) :: unpackR (r.drop (4 + lenD r + pad (lenD r))) else unpackR (r.drop 4)
termination_by r.length
decreasing_by all_goals (simp; omega)
theorem unpack_few {r : List Int} (h : r.length < 4) : unpackR r = [] := by rw [unpackR, dif_pos h]
theorem unpack_good {r : List Int} (h : ¬ r.length < 4) (hg : goodD r = true) : unpackR r = (r.drop 4).take (lenD r) :: unpackR (r.drop (4 + lenD r + pad (lenD r))) := by rw [unpackR, dif_neg h, if_pos hg]
theorem unpack_bad {r : List Int} (h : ¬ r.length < 4) (hg : goodD r = false) : unpackR r = unpackR (r.drop 4) := by rw [unpackR, dif_neg h, if_neg (by simp [hg])]
theorem okP_iff {p : List Int} : okP p = true ↔ 1 ≤ p.length ∧ p.length ≤ 4095 := by unfold okP; simp
theorem bare_at (p t : List Int) : (bare p ++ t).take 2 = [(p.length : Int) * 16 % 256, (p.length : Int) * 16 / 256] ∧ (bare p ++ t).getD 0 0 = (p.length : Int) * 16 % 256 ∧ (bare p ++ t).getD 1 0 = (p.length : Int) * 16 / 256 ∧
    (bare p ++ t).getD 2 0 = sum [(p.length : Int) * 16 % 256, (p.length : Int) * 16 / 256] ∧ (bare p ++ t).getD 3 0 = 78 ∧ (bare p ++ t).drop 4 = p ++ t := ⟨rfl, rfl, rfl, rfl, rfl, rfl⟩
theorem lenD_bare (p t : List Int) : lenD (bare p ++ t) = p.length := by
  obtain ⟨h0, h1, h2, h3, h4, h5⟩ := bare_at p t
  unfold lenD
  rw [h1, h2]; omega
theorem goodD_bare (p t : List Int) (hp : okP p = true) : goodD (bare p ++ t) = true := by
  obtain ⟨h0, h1, h2, h3, h4, h5⟩ := bare_at p t
  have hl := lenD_bare p t
  have hk := okP_iff.1 hp
  unfold goodD
  rw [h0, h3, h4, h1, hl]
  simp only [Bool.and_eq_true, beq_iff_eq, decide_eq_true_eq, List.length_append, bare_len]
  refine ⟨⟨⟨⟨trivial, trivial⟩, ?_⟩, ?_⟩, ?_⟩ <;> omega
theorem unpack_bare (p t : List Int) (hp : okP p = true) : unpackR (bare p ++ t) = p :: unpackR (t.drop (pad p.length)) := by
  obtain ⟨h0, h1, h2, h3, h4, h5⟩ := bare_at p t
  rw [unpack_good (by rw [List.length_append, bare_len]; omega) (goodD_bare p t hp), lenD_bare, h5]
  rw [List.take_left' rfl]
  congr 2
  rw [← List.drop_drop, ← List.drop_drop, h5, List.drop_left' rfl]
theorem unpack_unit (p t : List Int) (hp : okP p = true) : unpackR (unitP p ++ t) = p :: unpackR t := by
  rw [unitP, List.append_assoc, unpack_bare p _ hp, List.drop_left' (by simp)]
theorem unpack_full : ∀ (l : List (List Int)) (t : List Int), (∀ p ∈ l, okP p = true) → unpackR (full l ++ t) = l ++ unpackR t
  | [], t, _ => rfl
  | p :: r, t, h => by
    rw [full, List.append_assoc, unpack_unit p _ (h p List.mem_cons_self), unpack_full r t (fun q hq => h q (List.mem_cons_of_mem _ hq)), List.cons_append]
theorem unpack_pack (l : List (List Int)) (h : ∀ p ∈ l, okP p = true) : unpackR (packB l) = l := by
  rcases nil_or_snoc l with rfl | ⟨r, p, rfl⟩
  · exact unpack_few (by simp [packB])
  · rw [packB_snoc, unpack_full r _ (fun q hq => h q (List.mem_append_left _ hq))]
    have := unpack_bare p [] (h p (List.mem_append_right _ (List.mem_singleton.2 rfl)))
    rw [List.append_nil] at this
    rw [this, List.drop_nil, unpack_few (r := []) (by simp)]
/-- words that are no delimiters are passed over. -/
theorem unpack_skip : ∀ (n : Nat) (s t : List Int), s.length ≤ n → s.length % 4 = 0 → (∀ i, i < s.length → i % 4 = 3 → s.getD i 0 ≠ 78) → unpackR (s ++ t) = unpackR t
  | 0, s, t, hn, hm, hs => by
    have e : s = [] := List.eq_nil_of_length_eq_zero (by omega)
    rw [e]; rfl
  | n + 1, s, t, hn, hm, hs => by
    rcases Nat.eq_zero_or_pos s.length with h0 | hp
    · rw [List.eq_nil_of_length_eq_zero h0]; rfl
    · have h4 : 4 ≤ s.length := by omega
      have h3 : (s ++ t).getD 3 0 = s.getD 3 0 := by simp [List.getD, List.getElem?_append_left (show 3 < s.length by omega)]
      have hg : goodD (s ++ t) = false := by
        have := hs 3 (by omega) rfl
        unfold goodD
        rw [h3, show (s.getD 3 0 == 78) = false by simpa using this]
        simp
      rw [unpack_bad (by rw [List.length_append]; omega) hg, List.drop_append_of_le_length h4]
      refine unpack_skip n (s.drop 4) t (by simp; omega) (by simp; omega) (fun i hi h => ?_)
      have := hs (4 + i) (by simp at hi; omega) (by omega)
      simpa [List.getD] using this
theorem unpack_none : ∀ (n : Nat) (s : List Int), s.length ≤ n → (∀ i, i < s.length → i % 4 = 3 → s.getD i 0 ≠ 78) → unpackR s = []
  | 0, s, hn, hs => unpack_few (by omega)
  | n + 1, s, hn, hs => by
    by_cases h4 : s.length < 4
    · exact unpack_few h4
    · have hg : goodD s = false := by
        have := hs 3 (by omega) rfl
        unfold goodD
        rw [show (s.getD 3 0 == 78) = false by simpa using this]
        simp
      rw [unpack_bad h4 hg]
      refine unpack_none n (s.drop 4) (by simp; omega) (fun i hi h => ?_)
      have := hs (4 + i) (by simp at hi; omega) (by omega)
      simpa [List.getD] using this
/-- one step of a receiver, at 'at' of all the bytes, with what it has found. -/
theorem unpack_at_end {b : List Int} {i : Nat} (h : b.length < i + 4) : unpackR (b.drop i) = [] := unpack_few (by simp; omega)
theorem unpack_at_good {b : List Int} {i : Nat} (h : i + 4 ≤ b.length) (hg : goodD (b.drop i) = true) : unpackR (b.drop i) = (b.drop (i + 4)).take (lenD (b.drop i)) :: unpackR (b.drop (i + 4 + lenD (b.drop i) + pad (lenD (b.drop i)))) := by
  rw [unpack_good (by simp; omega) hg, List.drop_drop, List.drop_drop, ← Nat.add_assoc, ← Nat.add_assoc]
theorem unpack_at_bad {b : List Int} {i : Nat} (h : i + 4 ≤ b.length) (hg : goodD (b.drop i) = false) : unpackR (b.drop i) = unpackR (b.drop (i + 4)) := by
  rw [unpack_bad (by simp; omega) hg, List.drop_drop]

/-! ### what is read of them -/
def comb (out : List (List Int)) (q : Nat × List (List Int)) : Nat × List (List Int) := if q.1 = 0 then (0, out ++ q.2) else (q.1, [])
theorem comb_nil (q : Nat × List (List Int)) (h : q.1 ≠ 0 → q.2 = []) : comb [] q = q := by
  unfold comb
  obtain ⟨c, l⟩ := q
  split
  · rename_i h0; simp at h0; subst h0; rfl
  · rename_i h0; simp at h0 h; rw [h h0]
theorem comb_comb (a b : List (List Int)) (q : Nat × List (List Int)) : comb a (comb b q) = comb (a ++ b) q := by
  unfold comb
  by_cases h : q.1 = 0
  · rw [if_pos h, if_pos rfl, if_pos h, List.append_assoc]
  · rw [if_neg h, if_neg h, if_neg h]
def partsR (r : List Int) : Nat × List (List Int) :=
  if r.length = 0 then (0, [])
  else if h4 : r.length < 4 then (101, [])
  else if sum (r.take 2) ≠ r.getD 2 0 then (106, [])
  else if r.getD 3 0 ≠ 78 ∨ r.getD 0 0 % 16 ≠ 0 ∨ lenD r = 0 then (102, [])
  else if r.length < 4 + lenD r then (101, [])
  else if ((r.drop (4 + lenD r)).take (pad (lenD r))).any (· != 0) = true then (102, [])
  else if 0 < (r.drop (4 + lenD r)).length ∧ (r.drop (4 + lenD r)).length ≤ pad (lenD r) then (101, [])
  else comb [(r.drop 4).take (lenD r)] (partsR (r.drop (4 + lenD r + pad (lenD r))))
termination_by r.length
decreasing_by simp; omega
theorem parts_nil : partsR [] = (0, []) := by rw [partsR]; simp
theorem parts_good {r : List Int} (h1 : sum (r.take 2) = r.getD 2 0) (h2 : r.getD 3 0 = 78) (h3 : r.getD 0 0 % 16 = 0) (h4 : 0 < lenD r) (h5 : 4 + lenD r ≤ r.length)
    (h6 : ((r.drop (4 + lenD r)).take (pad (lenD r))).any (· != 0) = false) (h7 : (r.drop (4 + lenD r)).length = 0 ∨ pad (lenD r) < (r.drop (4 + lenD r)).length) : partsR r = comb [(r.drop 4).take (lenD r)] (partsR (r.drop (4 + lenD r + pad (lenD r)))) := by
  rw [partsR, if_neg (by omega), dif_neg (by omega), if_neg (by simp only [Decidable.not_not]; exact h1), if_neg (by simp only [not_or, Decidable.not_not]; exact ⟨h2, h3, by omega⟩), if_neg (by omega), if_neg (by simp [h6]), if_neg (by omega)]
theorem comb_zero (out : List (List Int)) (q : Nat × List (List Int)) : (comb out q).1 ≠ 0 → (comb out q).2 = [] := by
  unfold comb
  split
  · intro h; exact absurd rfl h
  · intro _; rfl
theorem parts_zero (r : List Int) : (partsR r).1 ≠ 0 → (partsR r).2 = [] := by
  rw [partsR]
  repeat' split
  all_goals first | exact fun _ => rfl | exact comb_zero _ _
theorem any_zeros (n : Nat) : (List.replicate n (0 : Int)).any (· != 0) = false := by
  rw [List.any_eq_false]
  intro x hx
  rw [(List.mem_replicate.1 hx).2]; decide
theorem parts_unit (p t : List Int) (hp : okP p = true) (ht : t ≠ []) : partsR (unitP p ++ t) = comb [p] (partsR t) := by
  have hk := okP_iff.1 hp
  rw [unitP, List.append_assoc]
  obtain ⟨h0, h1, h2, h3, h4, h5⟩ := bare_at p (List.replicate (pad p.length) 0 ++ t)
  have hl := lenD_bare p (List.replicate (pad p.length) 0 ++ t)
  have hd : (bare p ++ (List.replicate (pad p.length) 0 ++ t)).drop (4 + p.length) = List.replicate (pad p.length) 0 ++ t := by
    rw [← List.drop_drop, h5, List.drop_left' rfl]
  have htl : 0 < t.length := List.length_pos_iff.2 ht
  rw [parts_good (by rw [h0, h3]) h4 (by rw [h1]; omega) (by rw [hl]; omega) (by rw [hl, List.length_append, bare_len]; omega) (by rw [hl, hd, List.take_left' (by simp)]; exact any_zeros _) (by rw [hl, hd, List.length_append, List.length_replicate]; omega)]
  rw [hl, h5, List.take_left' rfl, ← List.drop_drop, hd, List.drop_left' (by simp)]
theorem parts_bare (p : List Int) (hp : okP p = true) : partsR (bare p) = (0, [p]) := by
  have hk := okP_iff.1 hp
  obtain ⟨h0, h1, h2, h3, h4, h5⟩ := bare_at p []
  have hl := lenD_bare p []
  rw [List.append_nil] at h0 h1 h2 h3 h4 h5 hl
  rw [List.append_nil] at h5
  have hd : (bare p).drop (4 + p.length) = [] := List.drop_of_length_le (by rw [bare_len]; omega)
  rw [parts_good (by rw [h0, h3]) h4 (by rw [h1]; omega) (by rw [hl]; omega) (by rw [hl, bare_len]; omega) (by rw [hl, hd]; simp) (by rw [hl, hd]; simp)]
  rw [hl, h5, List.take_of_length_le (by omega), ← List.drop_drop, hd, List.drop_nil, parts_nil]
  rfl
theorem parts_full : ∀ (l : List (List Int)) (t : List Int), (∀ p ∈ l, okP p = true) → t ≠ [] → partsR (full l ++ t) = comb l (partsR t)
  | [], t, _, _ => by rw [full, List.nil_append, comb_nil _ (parts_zero t)]
  | p :: r, t, h, ht => by
    rw [full, List.append_assoc, parts_unit p _ (h p List.mem_cons_self) (by simp [ht]), parts_full r t (fun q hq => h q (List.mem_cons_of_mem _ hq)) ht, comb_comb]
    rfl
theorem parts_pack (l : List (List Int)) (h : ∀ p ∈ l, okP p = true) : partsR (packB l) = (0, l) := by
  rcases nil_or_snoc l with rfl | ⟨r, p, rfl⟩
  · exact parts_nil
  · have hb : bare p ≠ [] := by intro e; have := congrArg List.length e; rw [bare_len] at this; simp at this
    rw [packB_snoc, parts_full r _ (fun q hq => h q (List.mem_append_left _ hq)) hb, parts_bare p (h p (List.mem_append_right _ (List.mem_singleton.2 rfl)))]
    rfl
/-- what Parts answers: its code, its parts. -/
def codeR (b : List Int) : Nat := if b = [] then 102 else if (partsR b).1 ≠ 0 then (partsR b).1 else if 64 < (partsR b).2.length ∨ 65535 < b.length then 104 else 0
def outR (b : List Int) : List (List Int) := if codeR b = 0 then (partsR b).2 else []
theorem codeR_pack (l : List (List Int)) (hc : codeP l = 0) : codeR (packB l) = 0 ∧ outR (packB l) = l := by
  unfold codeP at hc
  split at hc
  · cases hc
  rename_i h1
  split at hc
  · cases hc
  rename_i h2
  simp only [not_or] at h1
  have hall : ∀ p ∈ l, okP p = true := by
    intro p hp
    have := h1.2
    simp only [Bool.not_eq_true, List.any_eq_false] at this
    simpa using this p hp
  have hne : packB l ≠ [] := by
    intro e
    have := unpack_pack l hall
    rw [e, unpack_few (by simp)] at this
    exact h1.1 this.symm
  have hp := parts_pack l hall
  have : codeR (packB l) = 0 := by
    unfold codeR
    rw [if_neg hne, hp, if_neg (by simp), if_neg h2]
  exact ⟨this, by unfold outR; rw [if_pos this, hp]⟩

/-! ### cut off; torn -/
/-- where part k ends. -/
theorem pack_split (l : List (List Int)) (k : Nat) (hk : k < l.length) : ∃ s, packB l = full (l.take k) ++ (bare (l.getD k []) ++ s) := by
  have e : l = l.take k ++ l.getD k [] :: l.drop (k + 1) := by
    have h1 := List.take_append_drop k l
    rw [List.drop_eq_getElem_cons hk] at h1
    have h2 : l.getD k [] = l[k] := by simp [List.getD, hk]
    rw [h2, h1]
  rw [show packB l = packB (l.take k ++ l.getD k [] :: l.drop (k + 1)) by rw [← e], packB_all _ _ (by simp)]
  cases hr : l.drop (k + 1) with
  | nil => exact ⟨[], by simp [packB]⟩
  | cons q r => exact ⟨List.replicate (pad (l.getD k []).length) 0 ++ packB (q :: r), by simp [packB, unitP]⟩
theorem unpack_cut (l : List (List Int)) (h : ∀ p ∈ l, okP p = true) (k cut : Nat) (hk : k < l.length) (hc : (full (l.take k)).length + 4 + (l.getD k []).length ≤ cut) :
    ∃ rest, unpackR ((packB l).take cut) = l.take (k + 1) ++ rest := by
  obtain ⟨s, hs⟩ := pack_split l k hk
  have hp : okP (l.getD k []) = true := h _ (by
    have : l.getD k [] = l[k] := by simp [List.getD, hk]
    rw [this]; exact List.getElem_mem hk)
  have ht : l.take (k + 1) = l.take k ++ [l.getD k []] := by
    rw [List.take_succ_eq_append_getElem hk]; simp [List.getD, hk]
  rw [hs, ← List.append_assoc, List.take_append, List.take_of_length_le (by rw [List.length_append, bare_len]; omega), List.append_assoc,
    unpack_full _ _ (fun q hq => h q (List.mem_of_mem_take hq)), unpack_bare _ _ hp, ht]
  exact ⟨_, by rw [List.append_assoc]; rfl⟩
end Go.Proofs.YtlkoleannlpflaaDoor
