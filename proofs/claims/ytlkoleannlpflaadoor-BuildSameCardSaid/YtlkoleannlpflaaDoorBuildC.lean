/-
  CONTRACTS of the reference's Fits, of the law's other.
-/
import Derived.Test.YtlkoleannlpflaaDoorBuildB
import Derived.Test.YtlkoleannlpflaaDoorAirB
import Derived.Deep.RegionHeld3
namespace Go.Proofs.YtlkoleannlpflaaDoor
open Go.ChangeShapes Go.WideShapes Go.ChangeAt Go.RowKit Go.Deep
set_option linter.unusedVariables false
set_option linter.unusedSimpArgs false

set_option maxRecDepth 100000 in
set_option maxHeartbeats 8000000 in
theorem reffits_any (r : Rt) (m : Lm) (A : Option Addr) (n c : Nat) (xs : List Int) (w : World) (hs : -9223372036854775808 ≤ r.s ∧ r.s ≤ 9223372036854775807) (h : RowB .i64 w A n xs) :
    Calls Tryd.prog 12 #[r.val, m.val, .slice A n c] w fun e w' => e = .returned (.bool (fitsB r m xs)) ∧ Below w.heap.size w w' := by
  have HSB := Shut.mk hs
  have HR := Shut.mk h
  have hle := h.le
  unfold maxLen at hle
  clear hs h
  obtain ⟨hg, hm, hb⟩ := two_last w (.cells r.arr 23) (.cells m.arr 31)
  have HB := Shut.mk hb
  have HG := Shut.mk hg
  have HM := Shut.mk hm
  clear hg hm hb
  go_enter Tryd.func12, Tryd.ntmps12
  go_wp2_with (fail)
  generalize World.alloc (World.alloc w _) _ = w2 at *
  refine (refvalid_any r w2 HSB.out).mono ?_
  rintro e w3 ⟨rfl, hB⟩
  have T0 := Shut.mk (HB.out.trans (hB.mono HB.out.size))
  have T1 := Shut.mk ((hB.block _ (lt_blk HG.out)).trans HG.out)
  have T2 := Shut.mk ((hB.block _ (lt_blk HM.out)).trans HM.out)
  clear hB HB HG HM
  have HB := T0
  have HG := T1
  have HM := T2
  clear T0 T1 T2
  cases hv : validR r
  · have HE := Shut.mk (show false = fitsB r m xs from (fits_no1 hv).symm)
    go_wp2_with (fail)
    go_ret
    exact ⟨ret_bool HE.out, HB.out⟩
  by_cases h0 : n = 0
  · have e0 : ((n : Int) == 0) = true := by simp; omega
    have HE := Shut.mk (show false = fitsB r m xs from (fits_no2 (by rw [HR.out.len]; exact h0)).symm)
    go_wp2_with (fail)
    go_ret
    exact ⟨ret_bool HE.out, HB.out⟩
  have e0 : ((n : Int) == 0) = false := by simp; omega
  have HN0 := Shut.mk h0
  clear h0
  have hm0 : w3.cell? ⟨w.heap.size + 1, 0, none⟩ = some (.int .i64 m.c) := lm_cell HM.out 0
  by_cases h1 : m.c < (n : Int)
  · have HE := Shut.mk (show false = fitsB r m xs from (fits_no3 (by rw [HR.out.len]; exact .inl h1)).symm)
    have e1 : decide (m.c < (n : Int)) = true := by simpa using h1
    clear h1
    go_wp2_with (fail)
    go_ret
    exact ⟨ret_bool HE.out, HB.out⟩
  have e1 : decide (m.c < (n : Int)) = false := by simpa using h1
  have HN1 := Shut.mk (show (n : Int) ≤ m.c by omega)
  clear h1
  by_cases h1 : 64 < n
  · have HE := Shut.mk (show false = fitsB r m xs from (fits_no3 (by rw [HR.out.len]; exact .inr h1)).symm)
    have e2 : decide ((64 : Int) < (n : Int)) = true := by simp; omega
    have e3 : decide (64 < n) = true := by simpa using h1
    clear h1
    go_wp2_with (fail)
    go_ret
    exact ⟨ret_bool HE.out, HB.out⟩
  have e2 : decide ((64 : Int) < (n : Int)) = false := by simp; omega
  have e3 : decide (64 < n) = false := by simpa using h1
  have HN2 := Shut.mk (show n ≤ 64 by omega)
  clear h1
  go_wp2_with (fail)
  clear hm0 e0 e1 e2 e3
  go_loop [7] (fun i => ∃ k : Nat, k ≤ n ∧ i = .int .i64 k ∧ ∀ i, i < k → 1 ≤ xs.getD i 0 ∧ xs.getD i 0 ≤ 4095) (fun i => n - (intOf i).toNat)
  case atStart => exact ⟨0, by omega, rfl, fun i hi => by omega⟩
  case round =>
    obtain ⟨k, hk, rfl, hall⟩ := hrel
    have HA := Shut.mk hall
    clear hall
    by_cases hlt : k < n
    · obtain ⟨b, off, rfl, hc⟩ := (HR.out.below HB.out).el k hlt
      have hw := HR.out.w64 k hlt
      have HV := Shut.mk (go_bad (xs := xs) (k := k) (by rw [HR.out.len]; exact hlt))
      have HN := Shut.mk (show 1 ≤ xs.getD k 0 ∧ xs.getD k 0 ≤ 4095 → ∀ i, i < k + 1 → 1 ≤ xs.getD i 0 ∧ xs.getD i 0 ≤ 4095 from fun h i hi => by
        rcases Nat.lt_or_ge i k with h1 | h1
        · exact HA.out i h1
        · rw [show i = k by omega]; exact h)
      generalize xs.getD k 0 = v at *
      cases e1 : decide (v < 1)
      · have e1' : decide (v ≤ 0) = false := by simp at e1 ⊢; omega
        cases e2 : decide (4095 < v)
        · have HN2 := Shut.mk (HN.out (by simp at e1 e2; omega))
          go_wp2
          go_round
          case rel => exact ⟨k + 1, by omega, by go_num, HN2.out⟩
          case measure => simp [intOf]; omega
        · have HE := Shut.mk (show false = fitsB r m xs from (fits_no4 (HV.out (by simp at e2; omega))).symm)
          go_wp2
          go_ret
          exact ⟨ret_bool HE.out, HB.out⟩
      · have e1' : decide (v ≤ 0) = true := by simp at e1 ⊢; omega
        have HE := Shut.mk (show false = fitsB r m xs from (fits_no4 (HV.out (by simp at e1; omega))).symm)
        go_wp2
        go_ret
        exact ⟨ret_bool HE.out, HB.out⟩
    · have hk' : k = n := by omega
      subst hk'
      have HAL := Shut.mk (show xs.all lenOk = true by rw [go_good (by rw [HR.out.len]; exact HA.out)])
      clear HA hlt hk
      go_wp2_with (fail)
      refine (agglen_any A k c xs w3 (HR.out.below HB.out) (lens_le HAL.out) (by have := HN2.out; omega)).mono ?_
      rintro e w4 ⟨rfl, rfl⟩
      have HE := Shut.mk (fits_end hv (by have := HR.out.len; have := HN0.out; omega) (by rw [HR.out.len]; exact HN1.out) (by rw [HR.out.len]; exact HN2.out) HAL.out)
      have HL := Shut.mk (show 0 ≤ aggLen xs ∧ aggLen xs ≤ 1000000 from ⟨aggLen_nonneg xs, by have := agg_up HAL.out; rw [HR.out.len] at this; have := HN2.out; omega⟩)
      clear hv
      generalize aggLen xs = q at *
      have hx0 := rt_cell (r := r) HG.out 0
      have hx1 := rt_cell (r := r) HG.out 1
      have hx2 := rt_cell (r := r) HG.out 2
      have hx3 := rt_cell (r := r) HG.out 3
      have hx4 := rt_cell (r := r) HG.out 4
      dsimp only [Rt.arr] at hx0 hx1 hx2 hx3 hx4
      simp only [List.getElem?_toArray, List.getElem?_cons_zero, List.getElem?_cons_succ] at hx0 hx1 hx2 hx3 hx4
      go_wp2_with (fail)
      clear hx0 hx1 hx2 hx3 hx4
      refine (refppdu_any r q w3 HSB.out).mono ?_
      rintro e w4 ⟨rfl, hB⟩
      have T0 := Shut.mk (HB.out.trans (hB.mono HB.out.size))
      have T1 := Shut.mk ((hB.block _ (lt_blk HG.out)).trans HG.out)
      have T2 := Shut.mk ((hB.block _ (lt_blk HM.out)).trans HM.out)
      clear hB HB HG HM
      have HB := T0
      have HG := T1
      have HM := T2
      clear T0 T1 T2
      generalize ppduR r q = t at *
      have hm1 : w4.cell? ⟨w.heap.size + 1, 1, none⟩ = some (.int .i64 m.b) := lm_cell HM.out 1
      have hm2 : w4.cell? ⟨w.heap.size + 1, 2, none⟩ = some (.int .i64 m.t) := lm_cell HM.out 2
      cases d1 : decide (q ≤ m.b)
      · have HE := Shut.mk (show false = fitsB r m xs by rw [HE.out, d1]; rfl)
        go_wp2_with (fail)
        go_ret
        exact ⟨ret_bool HE.out, HB.out⟩
      cases d2 : decide (q ≤ 65535)
      · have HE := Shut.mk (show false = fitsB r m xs by rw [HE.out, d1, d2]; rfl)
        go_wp2_with (fail)
        go_ret
        exact ⟨ret_bool HE.out, HB.out⟩
      cases d3 : decide (t ≤ m.t)
      · have HE := Shut.mk (show false = fitsB r m xs by rw [HE.out, d1, d2, d3]; rfl)
        go_wp2_with (fail)
        go_ret
        exact ⟨ret_bool HE.out, HB.out⟩
      have HE := Shut.mk (show decide (t ≤ 54840) = fitsB r m xs by rw [HE.out, d1, d2, d3]; rfl)
      go_wp2_with (fail)
      go_ret
      exact ⟨ret_bool HE.out, HB.out⟩
set_option maxRecDepth 100000 in
set_option maxHeartbeats 8000000 in
theorem other_any (m : Lm) (w : World) :
    Calls Tryd.prog 10 #[m.val] w fun e w' => e = .returned m.val ∧ Below w.heap.size w w' := by
  have HB0 := Shut.mk ((two_last w (.cells m.arr 25) (.cells #[.int .i64 0, .int .i64 0, .int .i64 0] 31)).2.2)
  have HM := Shut.mk (heap_alloc_last w (.cells m.arr 25))
  have hz : ((w.alloc (.cells m.arr 25)).alloc (.cells m.arr 31)).heap[w.heap.size + 1]? = some (.cells m.arr 31) := (two_last w _ _).2.1
  have HB := Shut.mk ((two_last w (.cells m.arr 25) (.cells m.arr 31)).2.2)
  go_enter Tryd.func10, Tryd.ntmps10
  go_wp2_with (fail)
  refine bodyPost_ret (v := m.val) (results_cell1 (p := 2) Tryd.results10 _ _ (w.heap.size + 1) _ m.arr _ _ rfl hz Tryd.underlying31 rfl sizeLim2) rfl ⟨rfl, HB.out⟩
end Go.Proofs.YtlkoleannlpflaaDoor
