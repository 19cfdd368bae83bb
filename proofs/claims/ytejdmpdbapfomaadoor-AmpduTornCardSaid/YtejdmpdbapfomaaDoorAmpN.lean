/-
  MATHS OF FRAMES THAT GO TOGETHER, MORE: parts that are all alike; one delimiter torn; words of anything ahead. No program is named.
-/
import Derived.Test.YtejdmpdbapfomaaDoorAmpM
namespace Go.Proofs.YtejdmpdbapfomaaDoor
open Go.ChangeShapes Go.WideShapes Go.ChangeAt Go.RowKit
set_option linter.unusedVariables false
set_option linter.unusedSimpArgs false

/-! ### parts that are all alike -/
theorem rep_ok (n : Nat) (P : List Int) (h : okP P = true) : ∀ p ∈ List.replicate n P, okP p = true := fun p hp => by rw [(List.mem_replicate.1 hp).2]; exact h
theorem full_rep (n : Nat) (P : List Int) : (full (List.replicate n P)).length = n * (unitP P).length := by
  induction n with
  | zero => simp [full]
  | succ k ih => rw [List.replicate_succ, full, List.length_append, ih, Nat.succ_mul, Nat.add_comm]
theorem pack_rep (m : Nat) (P : List Int) : packB (List.replicate (m + 1) P) = full (List.replicate m P) ++ bare P := by
  rw [List.replicate_succ', packB_snoc]
theorem pack_rep_len (m : Nat) (P : List Int) : (packB (List.replicate (m + 1) P)).length = m * (unitP P).length + 4 + P.length := by
  rw [pack_rep, List.length_append, full_rep, bare_len, Nat.add_assoc]
theorem step_is (size : Nat) : (4 + size + 3) / 4 * 4 = 4 + size + pad size := by unfold pad; omega
theorem codeP_is {l : List (List Int)} (h0 : l ≠ []) (h : ∀ p ∈ l, okP p = true) (h1 : l.length ≤ 64) (h2 : (packB l).length ≤ 65535) : codeP l = 0 := by
  unfold codeP
  rw [if_neg, if_neg (by omega)]
  simp only [not_or]
  refine ⟨h0, ?_⟩
  simp only [Bool.not_eq_true, List.any_eq_false]
  intro p hp
  simp [h p hp]
theorem codeP_many {l : List (List Int)} (h0 : l ≠ []) (h : ∀ p ∈ l, okP p = true) (h1 : 64 < l.length ∨ 65535 < (packB l).length) : codeP l = 104 := by
  unfold codeP
  rw [if_neg, if_pos h1]
  simp only [not_or]
  refine ⟨h0, ?_⟩
  simp only [Bool.not_eq_true, List.any_eq_false]
  intro p hp
  simp [h p hp]
theorem codeP_bad {l : List (List Int)} (h : l = [] ∨ ∃ p ∈ l, okP p = false) : codeP l = 103 := by
  unfold codeP
  rw [if_pos]
  rcases h with h | ⟨p, hp, h⟩
  · exact .inl h
  · exact .inr (List.any_eq_true.2 ⟨p, hp, by simp [h]⟩)

/-! ### one delimiter torn -/
def torn (p : List Int) : List Int := (bare p).set 3 0
theorem torn_len (p : List Int) : (torn p).length = 4 + p.length := by rw [torn, List.length_set, bare_len]
theorem torn_at (p : List Int) (v : Int) (hp : ∀ x ∈ p, x ≠ 78) (i : Nat) (hi : i < (torn p).length) (h3 : i % 4 = 3) : (torn p).getD i 0 ≠ 78 := by
  rw [torn_len] at hi
  match i, h3 with
  | 3, _ => show (0 : Int) ≠ 78; decide
  | i + 4, _ =>
    have e : (torn p).getD (i + 4) 0 = p.getD i 0 := rfl
    rw [e]
    exact hp _ (by
      have : p.getD i 0 = p[i]'(by omega) := by simp [List.getD, show i < p.length by omega]
      rw [this]; exact List.getElem_mem _)
theorem parts_torn (p t : List Int) : partsR (torn p ++ t) = (102, []) := by
  have h0 : (torn p ++ t).take 2 = (bare p ++ t).take 2 := rfl
  have h2 : (torn p ++ t).getD 2 0 = (bare p ++ t).getD 2 0 := rfl
  have h3 : (torn p ++ t).getD 3 0 = 0 := rfl
  obtain ⟨e0, -, -, e3, -, -⟩ := bare_at p t
  rw [partsR, if_neg (by rw [List.length_append, torn_len]; omega), dif_neg (by rw [List.length_append, torn_len]; omega), if_neg (by rw [h0, h2, e0, e3]; simp), if_pos (.inl (by rw [h3]; decide))]
theorem set_mid (a b c : List Int) (k : Nat) (v : Int) (hk : k < b.length) : (a ++ (b ++ c)).set (a.length + k) v = a ++ (b.set k v ++ c) := by
  rw [List.set_append_right _ _ (by omega), Nat.add_sub_cancel_left, List.set_append_left _ _ hk]
theorem torn_all (n k : Nat) (P : List Int) (hP : okP P = true) (h78 : ∀ x ∈ P, x ≠ 78) (hk : k < n) :
    (unpackR ((packB (List.replicate n P)).set (k * (unitP P).length + 3) 0)).length + 1 = n ∧ codeR ((packB (List.replicate n P)).set (k * (unitP P).length + 3) 0) = 102 := by
  obtain ⟨m, rfl⟩ : ∃ m, n = k + (m + 1) := ⟨n - k - 1, by omega⟩
  have hl : (full (List.replicate k P)).length = k * (unitP P).length := full_rep k P
  have hb : 3 < (bare P).length := by rw [bare_len]; omega
  have hok := rep_ok k P hP
  have key : ∀ s : List Int, unpackR (torn P ++ s) = List.replicate m P → packB (List.replicate (k + (m + 1)) P) = full (List.replicate k P) ++ (bare P ++ s) →
      (unpackR ((packB (List.replicate (k + (m + 1)) P)).set (k * (unitP P).length + 3) 0)).length + 1 = k + (m + 1) ∧ codeR ((packB (List.replicate (k + (m + 1)) P)).set (k * (unitP P).length + 3) 0) = 102 := by
    intro s hs hp
    rw [hp, ← hl, set_mid _ _ _ 3 0 hb, show (bare P).set 3 0 = torn P from rfl]
    have ht : torn P ++ s ≠ [] := by intro e; have := congrArg List.length e; rw [List.length_append, torn_len] at this; simp at this
    refine ⟨?_, ?_⟩
    · rw [unpack_full _ _ hok, hs]; simp; omega
    · unfold codeR
      rw [if_neg (by simp [ht]), parts_full _ _ hok ht, parts_torn]
      rfl
  cases m with
  | zero =>
    refine key [] ?_ ?_
    · rw [List.append_nil]
      exact unpack_none _ _ (Nat.le_refl _) (fun i hi h3 => torn_at P 0 h78 i hi h3)
    · rw [List.append_nil]; exact pack_rep k P
  | succ m =>
    refine key (List.replicate (pad P.length) 0 ++ packB (List.replicate (m + 1) P)) ?_ ?_
    · rw [← List.append_assoc, unpack_skip _ _ _ (Nat.le_refl _) (by rw [List.length_append, torn_len, List.length_replicate]; unfold pad; omega) ?_, unpack_pack _ (rep_ok _ P hP)]
      intro i hi h3
      by_cases h : i < (torn P).length
      · have e : (torn P ++ List.replicate (pad P.length) 0).getD i 0 = (torn P).getD i 0 := by simp [List.getD, List.getElem?_append_left h]
        rw [e]; exact torn_at P 0 h78 i h h3
      · have e : (torn P ++ List.replicate (pad P.length) (0 : Int)).getD i 0 = 0 := by
          simp only [List.getD, List.getElem?_append_right (Nat.le_of_not_lt h)]
          rw [List.getElem?_replicate]
          split <;> rfl
        rw [e]; decide
    · rw [← List.replicate_append_replicate, packB_all _ _ (by simp), List.replicate_succ, packB_cons _ _ (by simp), unitP, List.append_assoc]

/-! ### words of anything ahead -/
theorem unpack_junk (s : List Int) (l : List (List Int)) (hs : s.length % 4 = 0) (h3 : ∀ i, i < s.length → i % 4 = 3 → s.getD i 0 ≠ 78) (h : ∀ p ∈ l, okP p = true) : unpackR (s ++ packB l) = l := by
  rw [unpack_skip _ _ _ (Nat.le_refl _) hs h3, unpack_pack l h]
end Go.Proofs.YtejdmpdbapfomaaDoor
