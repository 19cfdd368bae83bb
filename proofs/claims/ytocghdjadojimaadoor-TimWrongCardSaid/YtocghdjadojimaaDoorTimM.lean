/-
  MATHS OF A PARTIAL BITMAP: rising numbers, the bytes that say them, what bytes say. No program is named.
-/
import Derived.Test.YtocghdjadojimaaDoorBRow
namespace Go.Proofs.YtocghdjadojimaaDoor
open Go.ChangeShapes Go.WideShapes Go.ChangeAt Go.RowKit
set_option linter.unusedVariables false
set_option linter.unusedSimpArgs false

/-! ### eight bits -/
def byte8 (f : Nat → Bool) : Int := (if f 0 then 1 else 0) + (if f 1 then 2 else 0) + (if f 2 then 4 else 0) + (if f 3 then 8 else 0) + (if f 4 then 16 else 0) + (if f 5 then 32 else 0) + (if f 6 then 64 else 0) + (if f 7 then 128 else 0)
theorem eight_or : ∀ b0 b1 b2 b3 b4 b5 b6 b7 : Bool, ∀ k : Fin 8, bits .or .u8 ((if b0 then 1 else 0) + (if b1 then 2 else 0) + (if b2 then 4 else 0) + (if b3 then 8 else 0) + (if b4 then 16 else 0) + (if b5 then 32 else 0) + (if b6 then 64 else 0) + (if b7 then (128 : Int) else 0)) (2 ^ k.val) =
    (if (b0 || (0 == k.val)) then 1 else 0) + (if (b1 || (1 == k.val)) then 2 else 0) + (if (b2 || (2 == k.val)) then 4 else 0) + (if (b3 || (3 == k.val)) then 8 else 0) + (if (b4 || (4 == k.val)) then 16 else 0) + (if (b5 || (5 == k.val)) then 32 else 0) + (if (b6 || (6 == k.val)) then 64 else 0) + (if (b7 || (7 == k.val)) then (128 : Int) else 0) := by decide +kernel
theorem byte8_or (f : Nat → Bool) (k : Nat) (h : k < 8) : bits .or .u8 (byte8 f) (2 ^ k) = byte8 (fun i => f i || (i == k)) := eight_or (f 0) (f 1) (f 2) (f 3) (f 4) (f 5) (f 6) (f 7) ⟨k, h⟩
theorem eight_bit : ∀ b0 b1 b2 b3 b4 b5 b6 b7 : Bool, ∀ k : Fin 8, ((if b0 then 1 else 0) + (if b1 then 2 else 0) + (if b2 then 4 else 0) + (if b3 then 8 else 0) + (if b4 then 16 else 0) + (if b5 then 32 else 0) + (if b6 then 64 else 0) + (if b7 then (128 : Int) else 0)) / 2 ^ k.val % 2 =
    if [b0, b1, b2, b3, b4, b5, b6, b7].getD k.val false then 1 else 0 := by decide +kernel
theorem byte8_bit (f : Nat → Bool) (k : Nat) (h : k < 8) : byte8 f / 2 ^ k % 2 = if f k then 1 else 0 := by
  have := eight_bit (f 0) (f 1) (f 2) (f 3) (f 4) (f 5) (f 6) (f 7) ⟨k, h⟩
  refine this.trans ?_
  match k, h with
  | 0, _ | 1, _ | 2, _ | 3, _ | 4, _ | 5, _ | 6, _ | 7, _ => rfl
theorem byte8_wf (f : Nat → Bool) : 0 ≤ byte8 f ∧ byte8 f ≤ 255 := by
  unfold byte8
  repeat' split
  all_goals omega
theorem byte8_none (f : Nat → Bool) (h : ∀ k, k < 8 → f k = false) : byte8 f = 0 := by
  unfold byte8
  rw [h 0 (by omega), h 1 (by omega), h 2 (by omega), h 3 (by omega), h 4 (by omega), h 5 (by omega), h 6 (by omega), h 7 (by omega)]
  rfl
theorem byte8_some (f : Nat → Bool) (k : Nat) (h : k < 8) (hf : f k = true) : byte8 f ≠ 0 := by
  intro h0
  have := byte8_bit f k h
  rw [h0, hf] at this
  simp at this
theorem byte8_congr {f g : Nat → Bool} (h : ∀ k, k < 8 → f k = g k) : byte8 f = byte8 g := by
  unfold byte8
  rw [h 0 (by omega), h 1 (by omega), h 2 (by omega), h 3 (by omega), h 4 (by omega), h 5 (by omega), h 6 (by omega), h 7 (by omega)]
/-- one bit alone. -/
theorem byte8_one (k : Nat) (h : k < 8) : byte8 (fun i => i == k) = 2 ^ k := by
  match k, h with
  | 0, _ | 1, _ | 2, _ | 3, _ | 4, _ | 5, _ | 6, _ | 7, _ => rfl

/-! ### rising numbers -/
/-- each above the one ahead of it (the first above 'last'), none above the greatest. -/
def rises (last : Int) : List Int → Bool
  | [] => true
  | a :: r => decide (last < a) && decide (a ≤ 2007) && rises a r
theorem rises_mem : ∀ {l : List Int} {last : Int}, rises last l = true → ∀ a ∈ l, last < a ∧ a ≤ 2007
  | [], _, _, a, h => absurd h List.not_mem_nil
  | b :: r, last, h, a, ha => by
    simp only [rises, Bool.and_eq_true, decide_eq_true_eq] at h
    rcases List.mem_cons.1 ha with rfl | ha
    · exact h.1
    · have := rises_mem h.2 a ha
      omega
theorem rises_pair : ∀ {l : List Int} {last : Int}, rises last l = true → l.Pairwise (· < ·)
  | [], _, _ => List.Pairwise.nil
  | b :: r, last, h => by
    simp only [rises, Bool.and_eq_true, decide_eq_true_eq] at h
    exact List.Pairwise.cons (fun a ha => (rises_mem h.2 a ha).1) (rises_pair h.2)
theorem rises_drop {l : List Int} {last : Int} {i : Nat} (hi : i < l.length) : rises last (l.drop i) = (decide (last < l.getD i 0) && decide (l.getD i 0 ≤ 2007) && rises (l.getD i 0) (l.drop (i + 1))) := by
  rw [List.drop_eq_getElem_cons hi, rises]
  simp [List.getD, hi]
/-- two lists that rise, of the same numbers, are one. -/
theorem sorted_ext : ∀ {l m : List Int}, l.Pairwise (· < ·) → m.Pairwise (· < ·) → (∀ x, x ∈ l ↔ x ∈ m) → l = m
  | [], [], _, _, _ => rfl
  | [], b :: m, _, _, h => absurd ((h b).2 List.mem_cons_self) List.not_mem_nil
  | a :: l, [], _, _, h => absurd ((h a).1 List.mem_cons_self) List.not_mem_nil
  | a :: l, b :: m, hl, hm, h => by
    cases hl with | cons hal hl' => cases hm with | cons hbm hm' =>
    have hab : a = b := by
      rcases List.mem_cons.1 ((h a).1 List.mem_cons_self) with e | e
      · exact e
      · rcases List.mem_cons.1 ((h b).2 List.mem_cons_self) with e' | e'
        · exact e'.symm
        · have h1 := hbm a e
          have h2 := hal b e'
          omega
    subst hab
    rw [sorted_ext hl' hm' (fun x => ⟨fun hx => ?_, fun hx => ?_⟩)]
    · rcases List.mem_cons.1 ((h x).1 (List.mem_cons_of_mem _ hx)) with e | e
      · subst e; have := hal x hx; omega
      · exact e
    · rcases List.mem_cons.1 ((h x).2 (List.mem_cons_of_mem _ hx)) with e | e
      · subst e; have := hbm x hx; omega
      · exact e

/-! ### the part of the bitmap -/
/-- its first byte's number, the last one's, how many. -/
def fstB (l : List Int) : Int := l.getD 0 0 / 16 * 2
def lstB (l : List Int) : Int := l.getD (l.length - 1) 0 / 8
def lenB (l : List Int) : Nat := (lstB l - fstB l).toNat + 1
/-- byte j of the whole. -/
def byteAt (l : List Int) (j : Int) : Int := byte8 fun k => decide (8 * j + k ∈ l)
def partB (l : List Int) : List Int := (List.range (lenB l)).map fun i : Nat => byteAt l (fstB l + (i : Int))
theorem partB_len (l : List Int) : (partB l).length = lenB l := by simp [partB]
theorem partB_get (l : List Int) (i : Nat) (h : i < lenB l) : (partB l).getD i 0 = byteAt l (fstB l + i) := by simp [partB, List.getD, h]
theorem partB_wf (l : List Int) : ∀ v ∈ partB l, 0 ≤ v ∧ v ≤ 255 := by
  intro v hv
  simp only [partB, List.mem_map] at hv
  obtain ⟨i, _, rfl⟩ := hv
  exact byte8_wf _
/-- the numbers that bytes say, the first byte being byte 'fst' of the whole: the first m bits of them. -/
def saysTo (fst : Int) (ys : List Int) (m : Nat) : List Int := (List.range m).filterMap fun i => if ys.getD (i / 8) 0 / 2 ^ (i % 8) % 2 = 1 then some (8 * fst + i) else none
def says (fst : Int) (ys : List Int) : List Int := saysTo fst ys (8 * ys.length)
theorem saysTo_succ (fst : Int) (ys : List Int) (m : Nat) : saysTo fst ys (m + 1) = saysTo fst ys m ++ (if ys.getD (m / 8) 0 / 2 ^ (m % 8) % 2 = 1 then [8 * fst + (m : Int)] else []) := by
  unfold saysTo
  rw [List.range_succ, List.filterMap_append]
  congr 1
  by_cases h : ys.getD (m / 8) 0 / 2 ^ (m % 8) % 2 = 1
  · simp only [List.filterMap_cons, List.filterMap_nil, if_pos h]
  · simp only [List.filterMap_cons, List.filterMap_nil, if_neg h]
theorem says_pair (fst : Int) (ys : List Int) : ∀ m, (saysTo fst ys m).Pairwise (· < ·) ∧ ∀ a ∈ saysTo fst ys m, 8 * fst ≤ a ∧ a < 8 * fst + m
  | 0 => by simp [saysTo]
  | m + 1 => by
    obtain ⟨hp, hm⟩ := says_pair fst ys m
    rw [saysTo_succ]
    refine ⟨?_, ?_⟩
    · rw [List.pairwise_append]
      refine ⟨hp, ?_, fun a ha b hb => ?_⟩
      · split
        · exact List.pairwise_singleton _ _
        · exact List.Pairwise.nil
      · have := (hm a ha).2
        split at hb
        · rw [List.mem_singleton] at hb; omega
        · exact absurd hb List.not_mem_nil
    · intro a ha
      rcases List.mem_append.1 ha with ha | ha
      · have := hm a ha; omega
      · split at ha
        · rw [List.mem_singleton] at ha; omega
        · exact absurd ha List.not_mem_nil
theorem says_mem (fst : Int) (ys : List Int) (m : Nat) (a : Int) : a ∈ saysTo fst ys m ↔ ∃ i, i < m ∧ a = 8 * fst + (i : Int) ∧ ys.getD (i / 8) 0 / 2 ^ (i % 8) % 2 = 1 := by
  unfold saysTo
  rw [List.mem_filterMap]
  constructor
  · rintro ⟨i, hi, h⟩
    rw [List.mem_range] at hi
    split at h
    · rename_i hb
      exact ⟨i, hi, (Option.some.inj h).symm, hb⟩
    · cases h
  · rintro ⟨i, hi, rfl, hb⟩
    exact ⟨i, List.mem_range.2 hi, by rw [if_pos hb]⟩

/-! ### there and back -/
theorem getD_mem {l : List Int} {i : Nat} (h : i < l.length) : l.getD i 0 ∈ l := by
  have : l.getD i 0 = l[i] := by simp [List.getD, h]
  rw [this]; exact List.getElem_mem h
theorem pair_get {l : List Int} (h : l.Pairwise (· < ·)) {i j : Nat} (hij : i < j) (hj : j < l.length) : l.getD i 0 < l.getD j 0 := by
  have := List.pairwise_iff_getElem.1 h i j (by omega) hj hij
  simpa [List.getD, hj, show i < l.length by omega] using this
/-- all of them lie in the part. -/
theorem in_part {l : List Int} (h : rises 0 l = true) {a : Int} (ha : a ∈ l) : 0 < a ∧ a ≤ 2007 ∧ l.getD 0 0 ≤ a ∧ a ≤ l.getD (l.length - 1) 0 := by
  have hb := rises_mem h a ha
  have hp := rises_pair h
  obtain ⟨i, hi, rfl⟩ := List.getElem_of_mem ha
  have e : l.getD i 0 = l[i] := by simp [List.getD, hi]
  refine ⟨hb.1, hb.2, ?_, ?_⟩
  · rcases Nat.eq_zero_or_pos i with h0 | h0
    · subst h0; rw [e]; exact Int.le_refl _
    · have := pair_get hp h0 hi; omega
  · by_cases h1 : i = l.length - 1
    · subst h1; rw [e]; exact Int.le_refl _
    · have := pair_get hp (show i < l.length - 1 by omega) (by omega); omega
theorem ends_le {l : List Int} (h : rises 0 l = true) : 0 ≤ l.getD 0 0 ∧ l.getD 0 0 ≤ l.getD (l.length - 1) 0 ∧ l.getD (l.length - 1) 0 ≤ 2007 := by
  cases hl : l with
  | nil => simp
  | cons a r =>
    have h0 := in_part h (getD_mem (l := l) (i := 0) (by rw [hl]; simp))
    have h1 := in_part h (getD_mem (l := l) (i := l.length - 1) (by rw [hl]; simp))
    rw [hl] at h0 h1
    omega
theorem fst_facts {l : List Int} (h : rises 0 l = true) : 0 ≤ fstB l ∧ fstB l ≤ lstB l ∧ lstB l ≤ 250 ∧ (lenB l : Int) = lstB l - fstB l + 1 ∧ fstB l % 2 = 0 ∧ lenB l ≤ 251 := by
  obtain ⟨h0, h1, h2⟩ := ends_le h
  unfold lenB fstB lstB
  omega
theorem says_part {l : List Int} (h : rises 0 l = true) : says (fstB l) (partB l) = l := by
  obtain ⟨f0, f1, f2, f3, f4, f5⟩ := fst_facts h
  refine sorted_ext (says_pair _ _ _).1 (rises_pair h) (fun x => ?_)
  unfold says
  rw [says_mem, partB_len]
  have bit : ∀ i : Nat, i < 8 * lenB l → ((partB l).getD (i / 8) 0 / 2 ^ (i % 8) % 2 = 1 ↔ 8 * fstB l + (i : Int) ∈ l) := by
    intro i hi
    rw [partB_get l (i / 8) (by omega), byteAt, byte8_bit _ _ (Nat.mod_lt _ (by omega))]
    have e : 8 * (fstB l + ((i / 8 : Nat) : Int)) + ((i % 8 : Nat) : Int) = 8 * fstB l + (i : Int) := by omega
    rw [e]
    by_cases hm : 8 * fstB l + (i : Int) ∈ l
    · simp [hm]
    · simp [hm]
  constructor
  · rintro ⟨i, hi, rfl, hb⟩
    exact (bit i hi).1 hb
  · intro hx
    obtain ⟨x0, x1, x2, x3⟩ := in_part h hx
    have b0 : 8 * fstB l ≤ x := by unfold fstB; omega
    have b1 : x < 8 * fstB l + 8 * (lenB l : Int) := by rw [f3]; unfold lstB; omega
    obtain ⟨i, hi⟩ := Int.eq_ofNat_of_zero_le (show 0 ≤ x - 8 * fstB l by omega)
    have hxi : x = 8 * fstB l + (i : Int) := by omega
    exact ⟨i, by omega, hxi, (bit i (by omega)).2 (hxi ▸ hx)⟩
/-- what the part begins and ends with. -/
theorem part_last {l : List Int} (h : rises 0 l = true) (hp : 0 < l.length) : (partB l).getD (lenB l - 1) 0 ≠ 0 := by
  obtain ⟨f0, f1, f2, f3, f4, f5⟩ := fst_facts h
  rw [partB_get l _ (by unfold lenB; omega)]
  have hl := getD_mem (l := l) (i := l.length - 1) (by omega)
  obtain ⟨x0, -⟩ := in_part h hl
  obtain ⟨a, ha⟩ := Int.eq_ofNat_of_zero_le (show 0 ≤ l.getD (l.length - 1) 0 by omega)
  refine byte8_some _ (a % 8) (Nat.mod_lt _ (by omega)) (decide_eq_true ?_)
  have e : 8 * (fstB l + ((lenB l - 1 : Nat) : Int)) + ((a % 8 : Nat) : Int) = l.getD (l.length - 1) 0 := by
    have : ((lenB l - 1 : Nat) : Int) = lstB l - fstB l := by have : 1 ≤ lenB l := by unfold lenB; omega
                                                              omega
    rw [this]; unfold lstB; omega
  rw [e]; exact hl
theorem part_first {l : List Int} (h : rises 0 l = true) (hp : 0 < l.length) (h2 : 2 ≤ lenB l) : (partB l).getD 0 0 ≠ 0 ∨ (partB l).getD 1 0 ≠ 0 := by
  obtain ⟨f0, f1, f2, f3, f4, f5⟩ := fst_facts h
  have hl := getD_mem (l := l) (i := 0) hp
  obtain ⟨x0, -⟩ := in_part h hl
  obtain ⟨a, ha⟩ := Int.eq_ofNat_of_zero_le (show 0 ≤ l.getD 0 0 by omega)
  have hk : ∀ q : Nat, l.getD 0 0 / 8 = fstB l + q → q < 2 → (partB l).getD q 0 ≠ 0 := by
    intro q hq hq2
    rw [partB_get l q (by omega)]
    refine byte8_some _ (a % 8) (Nat.mod_lt _ (by omega)) (decide_eq_true ?_)
    have e : 8 * (fstB l + (q : Int)) + ((a % 8 : Nat) : Int) = l.getD 0 0 := by omega
    rw [e]; exact hl
  by_cases hq : l.getD 0 0 / 8 = fstB l
  · exact .inl (hk 0 (by omega) (by omega))
  · exact .inr (hk 1 (by unfold fstB at hq ⊢; omega) (by omega))
/-- one number more in the part: its byte alone turns. -/
theorem byteAt_snoc (l : List Int) (a : Nat) (j : Int) : byteAt (l ++ [(a : Int)]) j = if j = (a : Int) / 8 then bits .or .u8 (byteAt l j) (2 ^ (a % 8)) else byteAt l j := by
  unfold byteAt
  split
  · rename_i hj
    rw [byte8_or _ _ (Nat.mod_lt _ (by omega))]
    refine byte8_congr fun k hk => ?_
    have e : (8 * j + (k : Int) = (a : Int)) ↔ k = a % 8 := by omega
    by_cases hm : 8 * j + (k : Int) ∈ l
    · simp [hm]
    · by_cases he : k = a % 8
      · have hh := e.2 he
        rw [show (decide (8 * j + (k : Int) ∈ l ++ [(a : Int)])) = true from decide_eq_true (by rw [hh]; simp), he]
        simp
      · have hne : ¬ 8 * j + (k : Int) = (a : Int) := fun hh => he (e.1 hh)
        simp [hm, hne, he]
  · rename_i hj
    refine byte8_congr fun k hk => ?_
    have hne : ¬ 8 * j + (k : Int) = (a : Int) := by omega
    simp [hne]
theorem byteAt_nil (j : Int) : byteAt [] j = 0 := byte8_none _ (fun k _ => by simp)
end Go.Proofs.YtocghdjadojimaaDoor
