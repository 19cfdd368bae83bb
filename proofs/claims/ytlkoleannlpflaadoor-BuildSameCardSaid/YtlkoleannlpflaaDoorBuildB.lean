/-
  CONTRACTS of package build's Fits, the reference's Fits, the law's other.
-/
import Derived.Test.YtlkoleannlpflaaDoorBuildA
import Derived.Deep.RegionHeld3
namespace Go.Proofs.YtlkoleannlpflaaDoor
open Go.ChangeShapes Go.WideShapes Go.ChangeAt Go.RowKit Go.Deep
set_option linter.unusedVariables false
set_option linter.unusedSimpArgs false

/-! ### what Fits says, one by one -/
theorem fits_no1 {r : Rt} {m : Lm} {l : List Int} (h : validR r = false) : fitsB r m l = false := by unfold fitsB; rw [h]; rfl
theorem fits_no2 {r : Rt} {m : Lm} {l : List Int} (h : l.length = 0) : fitsB r m l = false := by
  have : l = [] := List.eq_nil_of_length_eq_zero h
  subst this; unfold fitsB; simp
theorem fits_no3 {r : Rt} {m : Lm} {l : List Int} (h : m.c < (l.length : Int) ∨ 64 < l.length) : fitsB r m l = false := by
  rw [Bool.eq_false_iff]; intro hf; have := (fits_iff.1 hf).c; have := (fits_iff.1 hf).w; omega
theorem fits_no4 {r : Rt} {m : Lm} {l : List Int} (h : l.all lenOk = false) : fitsB r m l = false := by
  unfold fitsB; rw [h]; simp
theorem fits_end {r : Rt} {m : Lm} {l : List Int} (h1 : validR r = true) (h2 : 0 < l.length) (h3 : (l.length : Int) ≤ m.c) (h4 : l.length ≤ 64) (h5 : l.all lenOk = true) :
    fitsB r m l = (decide (aggLen l ≤ m.b) && decide (aggLen l ≤ 65535) && decide (ppduR r (aggLen l) ≤ m.t) && decide (ppduR r (aggLen l) ≤ 54840)) := by
  unfold fitsB
  have e : l.isEmpty = false := by cases l with | nil => simp at h2 | cons x r => rfl
  rw [h1, h5, e, decide_eq_true h3, decide_eq_true h4]
  simp
theorem lens_le {l : List Int} (h : l.all lenOk = true) : ∀ x ∈ l, x ≤ 1000000 := fun x hx => by
  have := lenOk_iff.1 (List.all_eq_true.1 h x hx); omega
theorem agg_up {l : List Int} (h : l.all lenOk = true) : aggLen l ≤ (l.length : Int) * 4106 := by
  rw [← List.reverse_reverse l] at h ⊢
  generalize l.reverse = k at *
  induction k with
  | nil => exact Int.le_refl _
  | cons x r ih =>
    rw [List.reverse_cons] at h ⊢
    rw [List.all_append, Bool.and_eq_true] at h
    have hx := lenOk_iff.1 (List.all_eq_true.1 h.2 x (by simp))
    have := ih h.1
    rw [aggLen_snoc, List.length_append]
    simp only [List.length_cons, List.length_nil]
    omega
set_option maxRecDepth 100000 in
set_option maxHeartbeats 8000000 in
theorem fits_any (r : Rt) (m : Lm) (A : Option Addr) (n c : Nat) (xs : List Int) (w : World) (hT : Tab w) (h : RowB .i64 w A n xs) :
    Calls Tryd.prog 11 #[r.val, m.val, .slice A n c] w fun e w' => e = .returned (.bool (fitsB r m xs)) ∧ Below w.heap.size w w' := by
  have HT := Shut.mk hT
  have HR := Shut.mk h
  clear hT h
  obtain ⟨hg, hm, hb⟩ := two_last w (.cells r.arr 23) (.cells m.arr 25)
  have HB := Shut.mk hb
  have HG := Shut.mk hg
  have HM := Shut.mk hm
  clear hg hm hb
  go_enter Tryd.func11, Tryd.ntmps11
  go_wp2_with (fail)
  generalize World.alloc (World.alloc w _) _ = w2 at *
  refine (valid_any r w2).mono ?_
  rintro e w3 ⟨rfl, hB⟩
  have T0 := Shut.mk (HB.out.trans (hB.mono HB.out.size))
  have T1 := Shut.mk ((hB.block _ (lt_blk HG.out)).trans HG.out)
  have T2 := Shut.mk ((hB.block _ (lt_blk HM.out)).trans HM.out)
  clear hB HB HG HM
  have HB := T0
  have HG := T1
  have HM := T2
  clear T0 T1 T2
  cases hv : validR r
  · have HE := Shut.mk (show false = fitsB r m xs from (fits_no1 hv).symm)
    go_wp2_with (fail)
    go_ret
    exact ⟨ret_bool HE.out, HB.out⟩
  by_cases h0 : n = 0
  · have e0 : ((n : Int) == 0) = true := by simp; omega
    have HE := Shut.mk (show false = fitsB r m xs from (fits_no2 (by rw [HR.out.len]; exact h0)).symm)
    go_wp2_with (fail)
    go_ret
    exact ⟨ret_bool HE.out, HB.out⟩
  have e0 : ((n : Int) == 0) = false := by simp; omega
  have HN0 := Shut.mk h0
  clear h0
  have hm0 : w3.cell? ⟨w.heap.size + 1, 0, none⟩ = some (.int .i64 m.c) := lm_cell HM.out 0
  by_cases h1 : m.c < (n : Int) ∨ 64 < n
  · have HE := Shut.mk (show false = fitsB r m xs from (fits_no3 (by rw [HR.out.len]; exact h1)).symm)
    obtain ⟨K, hK⟩ : ∃ K, (if (64 : Int) < m.c then (64 : Int) else m.c) = K := ⟨_, rfl⟩
    have e1 : decide (K < (n : Int)) = true := by rw [← hK]; simp only [decide_eq_true_eq]; split <;> omega
    clear h1
    go_wp2_with (fail)
    go_ret
    exact ⟨ret_bool HE.out, HB.out⟩
  have HN1 := Shut.mk (show (n : Int) ≤ m.c ∧ n ≤ 64 by omega)
  obtain ⟨K, hK⟩ : ∃ K, (if (64 : Int) < m.c then (64 : Int) else m.c) = K := ⟨_, rfl⟩
  have e1 : decide (K < (n : Int)) = false := by rw [← hK]; simp only [decide_eq_false_iff_not]; split <;> omega
  clear h1
  go_wp2_with (fail)
  refine (maygo_any A n c xs w3 (HR.out.below HB.out)).mono ?_
  rintro e w4 ⟨rfl, rfl⟩
  clear hm0
  cases ha : xs.all lenOk
  · have HE := Shut.mk (show false = fitsB r m xs from (fits_no4 ha).symm)
    go_wp2_with (fail)
    go_ret
    exact ⟨ret_bool HE.out, HB.out⟩
  have HA := Shut.mk ha
  go_wp2_with (fail)
  refine (len_any A n c xs w3 (HR.out.below HB.out) (lens_le HA.out) (by have := HN1.out.2; omega)).mono ?_
  rintro e w4 ⟨rfl, rfl⟩
  have HE := Shut.mk (fits_end hv (by have := HR.out.len; have := HN0.out; omega) (by rw [HR.out.len]; exact HN1.out.1) (by rw [HR.out.len]; exact HN1.out.2) HA.out)
  have HL := Shut.mk (show 0 ≤ aggLen xs ∧ aggLen xs ≤ 1000000 from ⟨aggLen_nonneg xs, by have := agg_up HA.out; rw [HR.out.len] at this; have := HN1.out.2; omega⟩)
  clear hv ha e0 e1 hK
  generalize aggLen xs = q at *
  have HG' := Shut.mk (fun (w' : World) (hB : Below w3.heap.size w3 w') => (hB.block _ (lt_blk HG.out)).trans HG.out)
  have HM' := Shut.mk (fun (w' : World) (hB : Below w3.heap.size w3 w') => (hB.block _ (lt_blk HM.out)).trans HM.out)
  have HT' := Shut.mk (fun (w' : World) (hB : Below w3.heap.size w3 w') => HT.out.below (HB.out.trans (hB.mono HB.out.size)))
  go_wp2_with (fail)
  by_cases h1 : q ≤ m.b ∧ q ≤ 65535
  · obtain ⟨K2, hK2⟩ : ∃ K2, (if (65535 : Int) < m.b then (65535 : Int) else m.b) = K2 := ⟨_, rfl⟩
    have e2 : decide (q ≤ K2) = true := by rw [← hK2]; simp only [decide_eq_true_eq]; split <;> omega
    obtain ⟨K3, hK3⟩ : ∃ K3, (if (54840 : Int) < m.t then (54840 : Int) else m.t) = K3 := ⟨_, rfl⟩
    have HK3 := Shut.mk (show decide (ppduR r q ≤ K3) = (decide (ppduR r q ≤ m.t) && decide (ppduR r q ≤ 54840)) by rw [← hK3, Bool.eq_iff_iff]; simp only [decide_eq_true_eq, Bool.and_eq_true]; split <;> omega)
    rw [show decide (q ≤ m.b) = true from decide_eq_true h1.1, show decide (q ≤ 65535) = true from decide_eq_true h1.2, Bool.true_and, Bool.true_and, ← HK3.out] at HE
    clear h1
    refine wp_region_held_drew (S := fun w' => Below w3.heap.size w3 w') (by kernel_rfl) (Below.refl _ _).drew (fun hHeld => ?_)
    generalize World.drew w3 = w5 at *
    have HB5 := Lib.hid hHeld
    refine wpAnyH_take (i := 0) (v := ?_) rfl (by kernel_rfl) (by kernel_rfl) (by kernel_rfl) (fun _ _ _ h => h) (Or.inl ⟨by rfl, ?_⟩) (by assumption) ?_
    rotate_left
    · intro w hSw
      clear hSw
      go_simp
      try with_reducible rfl
    try simp only [Act.put, List.getElem_toArray, List.getElem_cons_zero, List.getElem_cons_succ, List.setIfInBounds_toArray, List.set_cons_zero, List.set_cons_succ]
    refine wpAnyH_take (i := 1) (v := ?_) rfl (by kernel_rfl) (by kernel_rfl) (by kernel_rfl) (fun _ _ _ h => h) (Or.inl ⟨by rfl, ?_⟩) (by assumption) ?_
    rotate_left
    · intro w hSw
      clear hSw
      go_simp
      try with_reducible rfl
    try simp only [Act.put, List.getElem_toArray, List.getElem_cons_zero, List.getElem_cons_succ, List.setIfInBounds_toArray, List.set_cons_zero, List.set_cons_succ]
    refine wpAnyH_take (i := 2) (v := ?_) rfl (by kernel_rfl) (by kernel_rfl) (by kernel_rfl) (fun _ _ _ h => h) (Or.inl ⟨by rfl, ?_⟩) (by assumption) ?_
    rotate_left
    · intro w hSw
      have hx := HM'.out w hSw
      have hm1 := lm_cell hx 1
      have hm2 := lm_cell hx 2
      dsimp only [Lm.arr] at hm1 hm2
      simp only [List.getElem?_toArray, List.getElem?_cons_zero, List.getElem?_cons_succ] at hm1 hm2
      clear hx
      clear hSw
      go_simp
      try with_reducible rfl
    try simp only [Act.put, List.getElem_toArray, List.getElem_cons_zero, List.getElem_cons_succ, List.setIfInBounds_toArray, List.set_cons_zero, List.set_cons_succ]
    refine wpAnyH_take (i := 3) (v := ?_) rfl (by kernel_rfl) (by kernel_rfl) (by kernel_rfl) (fun _ _ _ h => h) (Or.inl ⟨by rfl, ?_⟩) (by assumption) ?_
    rotate_left
    · intro w hSw
      clear hSw
      go_simp
      try with_reducible rfl
    try simp only [Act.put, List.getElem_toArray, List.getElem_cons_zero, List.getElem_cons_succ, List.setIfInBounds_toArray, List.set_cons_zero, List.set_cons_succ]
    refine wpAnyH_take (i := 4) (v := ?_) rfl (by kernel_rfl) (by kernel_rfl) (by kernel_rfl) (fun _ _ _ h => h) (Or.inl ⟨by rfl, ?_⟩) (by assumption) ?_
    rotate_left
    · intro w hSw
      clear hSw
      go_simp
      try with_reducible rfl
    try simp only [Act.put, List.getElem_toArray, List.getElem_cons_zero, List.getElem_cons_succ, List.setIfInBounds_toArray, List.set_cons_zero, List.set_cons_succ]
    refine wpAnyH_take (i := 5) (v := ?_) rfl (by kernel_rfl) (by kernel_rfl) (by kernel_rfl) (fun _ _ _ h => h) (Or.inl ⟨by rfl, ?_⟩) (by assumption) ?_
    rotate_left
    · intro w hSw
      clear hSw
      go_simp
      try with_reducible rfl
    try simp only [Act.put, List.getElem_toArray, List.getElem_cons_zero, List.getElem_cons_succ, List.setIfInBounds_toArray, List.set_cons_zero, List.set_cons_succ]
    refine wpAnyH_take (i := 6) (v := .agg (Rt.arr r)) rfl (by kernel_rfl) (by kernel_rfl) (by kernel_rfl) (fun _ _ _ h => h) (yieldsIf_load_mid (by rfl) 23 (.tmp 3) rfl w.heap.size (0) rfl ((Rt.arr r)).toList _ (fun w' hw' => block_range (HG'.out w' hw')) Tryd.underlying23 rfl sizeRate) (by assumption) ?_
    try simp only [Act.put, List.getElem_toArray, List.getElem_cons_zero, List.getElem_cons_succ, List.setIfInBounds_toArray, List.set_cons_zero, List.set_cons_succ]
    refine wpAnyH_take (i := 7) (v := ?_) rfl (by kernel_rfl) (by kernel_rfl) (by kernel_rfl) (fun _ _ _ h => h) (Or.inl ⟨by rfl, ?_⟩) (by assumption) ?_
    rotate_left
    · intro w hSw
      clear hSw
      go_simp
      try with_reducible rfl
    try simp only [Act.put, List.getElem_toArray, List.getElem_cons_zero, List.getElem_cons_succ, List.setIfInBounds_toArray, List.set_cons_zero, List.set_cons_succ]
    refine wpAnyH_take (i := 9) (v := ?_) rfl (by kernel_rfl) (by kernel_rfl) (by kernel_rfl) (fun _ _ _ h => h) (Or.inl ⟨by rfl, ?_⟩) (by assumption) ?_
    rotate_left
    · intro w hSw
      clear hSw
      go_simp
      try with_reducible rfl
    try simp only [Act.put, List.getElem_toArray, List.getElem_cons_zero, List.getElem_cons_succ, List.setIfInBounds_toArray, List.set_cons_zero, List.set_cons_succ]
    refine wpAnyH_take (i := 10) (v := ?_) rfl (by kernel_rfl) (by kernel_rfl) (by kernel_rfl) (fun _ _ _ h => h) (Or.inl ⟨by rfl, ?_⟩) (by assumption) ?_
    rotate_left
    · intro w hSw
      have hx := HM'.out w hSw
      have hm1 := lm_cell hx 1
      have hm2 := lm_cell hx 2
      dsimp only [Lm.arr] at hm1 hm2
      simp only [List.getElem?_toArray, List.getElem?_cons_zero, List.getElem?_cons_succ] at hm1 hm2
      clear hx
      clear hSw
      go_simp
      try with_reducible rfl
    try simp only [Act.put, List.getElem_toArray, List.getElem_cons_zero, List.getElem_cons_succ, List.setIfInBounds_toArray, List.set_cons_zero, List.set_cons_succ]
    refine wpAnyH_take (i := 11) (v := ?_) rfl (by kernel_rfl) (by kernel_rfl) (by kernel_rfl) (fun _ _ _ h => h) (Or.inl ⟨by rfl, ?_⟩) (by assumption) ?_
    rotate_left
    · intro w hSw
      clear hSw
      go_simp
      try with_reducible rfl
    try simp only [Act.put, List.getElem_toArray, List.getElem_cons_zero, List.getElem_cons_succ, List.setIfInBounds_toArray, List.set_cons_zero, List.set_cons_succ]
    refine wpAnyH_ready (rs := [8]) (by kernel_rfl) (by simp) ?_
    refine AllReadyH.cons rfl (fun K hK => ?_) AllReadyH.nil
    go_simp
    refine (ppdu_any r q w5 (HT'.out _ HB5.out)).mono ?_
    rintro e' w6 ⟨rfl, hb⟩
    have HB6 := Lib.hid (HB5.out.trans (hb.mono HB5.out.size))
    clear hb hHeld HB5
    refine hK.out _ _ HB6.out (fun hHeld => ?_)
    clear hK K
    try simp only [Act.put, List.getElem_toArray, List.getElem_cons_zero, List.getElem_cons_succ, List.setIfInBounds_toArray, List.set_cons_zero, List.set_cons_succ]
    refine wpAnyH_take (i := 12) (v := ?_) rfl (by kernel_rfl) (by kernel_rfl) (by kernel_rfl) (fun _ _ _ h => h) (Or.inl ⟨by rfl, ?_⟩) (by assumption) ?_
    rotate_left
    · intro w hSw
      clear hSw
      go_simp
      try with_reducible rfl
    try simp only [Act.put, List.getElem_toArray, List.getElem_cons_zero, List.getElem_cons_succ, List.setIfInBounds_toArray, List.set_cons_zero, List.set_cons_succ]
    refine wpAnyH_take (i := 13) (v := ?_) rfl (by kernel_rfl) (by kernel_rfl) (by kernel_rfl) (fun _ _ _ h => h) (Or.inl ⟨by rfl, ?_⟩) (by assumption) ?_
    rotate_left
    · intro w hSw
      clear hSw
      go_simp
      try with_reducible rfl
    try simp only [Act.put, List.getElem_toArray, List.getElem_cons_zero, List.getElem_cons_succ, List.setIfInBounds_toArray, List.set_cons_zero, List.set_cons_succ]
    refine wpAnyH_take (i := 14) (v := ?_) rfl (by kernel_rfl) (by kernel_rfl) (by kernel_rfl) (fun _ _ _ h => h) (Or.inl ⟨by rfl, ?_⟩) (by assumption) ?_
    rotate_left
    · intro w hSw
      clear hSw
      go_simp
      try with_reducible rfl
    try simp only [Act.put, List.getElem_toArray, List.getElem_cons_zero, List.getElem_cons_succ, List.setIfInBounds_toArray, List.set_cons_zero, List.set_cons_succ]
    refine wpAnyH_done (by kernel_rfl) ?_ _
    try simp only [Act.put, List.getElem_toArray, List.getElem_cons_zero, List.getElem_cons_succ, List.setIfInBounds_toArray, List.set_cons_zero, List.set_cons_succ]
    go_wp2_with (fail)
    go_ret
    exact ⟨ret_bool HE.out.symm, HB.out.trans (HB6.out.mono HB.out.size)⟩
  · obtain ⟨K2, hK2⟩ : ∃ K2, (if (65535 : Int) < m.b then (65535 : Int) else m.b) = K2 := ⟨_, rfl⟩
    have e2 : decide (q ≤ K2) = false := by rw [← hK2]; simp only [decide_eq_false_iff_not]; split <;> omega
    have HE := Shut.mk (show fitsB r m xs = false by rw [HE.out]; rw [Bool.eq_false_iff]; intro h; simp at h; omega)
    clear h1
    refine wp_region_held_drew (S := fun w' => Below w3.heap.size w3 w') (by kernel_rfl) (Below.refl _ _).drew (fun hHeld => ?_)
    generalize World.drew w3 = w5 at *
    have HB5 := Lib.hid hHeld
    refine wpAnyH_take (i := 0) (v := ?_) rfl (by kernel_rfl) (by kernel_rfl) (by kernel_rfl) (fun _ _ _ h => h) (Or.inl ⟨by rfl, ?_⟩) (by assumption) ?_
    rotate_left
    · intro w hSw
      clear hSw
      go_simp
      try with_reducible rfl
    try simp only [Act.put, List.getElem_toArray, List.getElem_cons_zero, List.getElem_cons_succ, List.setIfInBounds_toArray, List.set_cons_zero, List.set_cons_succ]
    refine wpAnyH_take (i := 1) (v := ?_) rfl (by kernel_rfl) (by kernel_rfl) (by kernel_rfl) (fun _ _ _ h => h) (Or.inl ⟨by rfl, ?_⟩) (by assumption) ?_
    rotate_left
    · intro w hSw
      clear hSw
      go_simp
      try with_reducible rfl
    try simp only [Act.put, List.getElem_toArray, List.getElem_cons_zero, List.getElem_cons_succ, List.setIfInBounds_toArray, List.set_cons_zero, List.set_cons_succ]
    refine wpAnyH_take (i := 2) (v := ?_) rfl (by kernel_rfl) (by kernel_rfl) (by kernel_rfl) (fun _ _ _ h => h) (Or.inl ⟨by rfl, ?_⟩) (by assumption) ?_
    rotate_left
    · intro w hSw
      have hx := HM'.out w hSw
      have hm1 := lm_cell hx 1
      have hm2 := lm_cell hx 2
      dsimp only [Lm.arr] at hm1 hm2
      simp only [List.getElem?_toArray, List.getElem?_cons_zero, List.getElem?_cons_succ] at hm1 hm2
      clear hx
      clear hSw
      go_simp
      try with_reducible rfl
    try simp only [Act.put, List.getElem_toArray, List.getElem_cons_zero, List.getElem_cons_succ, List.setIfInBounds_toArray, List.set_cons_zero, List.set_cons_succ]
    refine wpAnyH_take (i := 3) (v := ?_) rfl (by kernel_rfl) (by kernel_rfl) (by kernel_rfl) (fun _ _ _ h => h) (Or.inl ⟨by rfl, ?_⟩) (by assumption) ?_
    rotate_left
    · intro w hSw
      clear hSw
      go_simp
      try with_reducible rfl
    try simp only [Act.put, List.getElem_toArray, List.getElem_cons_zero, List.getElem_cons_succ, List.setIfInBounds_toArray, List.set_cons_zero, List.set_cons_succ]
    refine wpAnyH_take (i := 4) (v := ?_) rfl (by kernel_rfl) (by kernel_rfl) (by kernel_rfl) (fun _ _ _ h => h) (Or.inl ⟨by rfl, ?_⟩) (by assumption) ?_
    rotate_left
    · intro w hSw
      clear hSw
      go_simp
      try with_reducible rfl
    try simp only [Act.put, List.getElem_toArray, List.getElem_cons_zero, List.getElem_cons_succ, List.setIfInBounds_toArray, List.set_cons_zero, List.set_cons_succ]
    refine wpAnyH_take (i := 5) (v := ?_) rfl (by kernel_rfl) (by kernel_rfl) (by kernel_rfl) (fun _ _ _ h => h) (Or.inl ⟨by rfl, ?_⟩) (by assumption) ?_
    rotate_left
    · intro w hSw
      clear hSw
      go_simp
      try with_reducible rfl
    try simp only [Act.put, List.getElem_toArray, List.getElem_cons_zero, List.getElem_cons_succ, List.setIfInBounds_toArray, List.set_cons_zero, List.set_cons_succ]
    refine wpAnyH_take (i := 6) (v := undef) rfl (by kernel_rfl) (by kernel_rfl) (by kernel_rfl) (fun _ _ _ h => h) (Or.inr ⟨by rfl, rfl⟩) (by assumption) ?_
    try simp only [Act.put, List.getElem_toArray, List.getElem_cons_zero, List.getElem_cons_succ, List.setIfInBounds_toArray, List.set_cons_zero, List.set_cons_succ]
    refine wpAnyH_take (i := 7) (v := undef) rfl (by kernel_rfl) (by kernel_rfl) (by kernel_rfl) (fun _ _ _ h => h) (Or.inr ⟨by rfl, rfl⟩) (by assumption) ?_
    try simp only [Act.put, List.getElem_toArray, List.getElem_cons_zero, List.getElem_cons_succ, List.setIfInBounds_toArray, List.set_cons_zero, List.set_cons_succ]
    refine wpAnyH_take (i := 8) (v := undef) rfl (by kernel_rfl) (by kernel_rfl) (by kernel_rfl) (fun _ _ _ h => h) (Or.inr ⟨by rfl, rfl⟩) (by assumption) ?_
    try simp only [Act.put, List.getElem_toArray, List.getElem_cons_zero, List.getElem_cons_succ, List.setIfInBounds_toArray, List.set_cons_zero, List.set_cons_succ]
    refine wpAnyH_take (i := 9) (v := undef) rfl (by kernel_rfl) (by kernel_rfl) (by kernel_rfl) (fun _ _ _ h => h) (Or.inr ⟨by rfl, rfl⟩) (by assumption) ?_
    try simp only [Act.put, List.getElem_toArray, List.getElem_cons_zero, List.getElem_cons_succ, List.setIfInBounds_toArray, List.set_cons_zero, List.set_cons_succ]
    refine wpAnyH_take (i := 10) (v := undef) rfl (by kernel_rfl) (by kernel_rfl) (by kernel_rfl) (fun _ _ _ h => h) (Or.inr ⟨by rfl, rfl⟩) (by assumption) ?_
    try simp only [Act.put, List.getElem_toArray, List.getElem_cons_zero, List.getElem_cons_succ, List.setIfInBounds_toArray, List.set_cons_zero, List.set_cons_succ]
    refine wpAnyH_take (i := 11) (v := undef) rfl (by kernel_rfl) (by kernel_rfl) (by kernel_rfl) (fun _ _ _ h => h) (Or.inr ⟨by rfl, rfl⟩) (by assumption) ?_
    try simp only [Act.put, List.getElem_toArray, List.getElem_cons_zero, List.getElem_cons_succ, List.setIfInBounds_toArray, List.set_cons_zero, List.set_cons_succ]
    refine wpAnyH_take (i := 12) (v := undef) rfl (by kernel_rfl) (by kernel_rfl) (by kernel_rfl) (fun _ _ _ h => h) (Or.inr ⟨by rfl, rfl⟩) (by assumption) ?_
    try simp only [Act.put, List.getElem_toArray, List.getElem_cons_zero, List.getElem_cons_succ, List.setIfInBounds_toArray, List.set_cons_zero, List.set_cons_succ]
    refine wpAnyH_take (i := 13) (v := ?_) rfl (by kernel_rfl) (by kernel_rfl) (by kernel_rfl) (fun _ _ _ h => h) (Or.inl ⟨by rfl, ?_⟩) (by assumption) ?_
    rotate_left
    · intro w hSw
      clear hSw
      go_simp
      try with_reducible rfl
    try simp only [Act.put, List.getElem_toArray, List.getElem_cons_zero, List.getElem_cons_succ, List.setIfInBounds_toArray, List.set_cons_zero, List.set_cons_succ]
    refine wpAnyH_take (i := 14) (v := ?_) rfl (by kernel_rfl) (by kernel_rfl) (by kernel_rfl) (fun _ _ _ h => h) (Or.inl ⟨by rfl, ?_⟩) (by assumption) ?_
    rotate_left
    · intro w hSw
      clear hSw
      go_simp
      try with_reducible rfl
    try simp only [Act.put, List.getElem_toArray, List.getElem_cons_zero, List.getElem_cons_succ, List.setIfInBounds_toArray, List.set_cons_zero, List.set_cons_succ]
    refine wpAnyH_done (by kernel_rfl) ?_ _
    try simp only [Act.put, List.getElem_toArray, List.getElem_cons_zero, List.getElem_cons_succ, List.setIfInBounds_toArray, List.set_cons_zero, List.set_cons_succ]
    go_wp2_with (fail)
    go_ret
    exact ⟨ret_bool HE.out.symm, HB.out.trans (HB5.out.mono HB.out.size)⟩
end Go.Proofs.YtlkoleannlpflaaDoor
