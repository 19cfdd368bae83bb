/-
  CONTRACTS of the reference's Ppdu, Answer, Total, Most: each in one, of whatever rate, length, time.
-/
import Derived.Test.YtlkoleannlpflaaDoorRateG
import Derived.Test.YtlkoleannlpflaaDoorAirA
import Derived.Deep.RegionHeld3
namespace Go.Proofs.YtlkoleannlpflaaDoor
open Go.ChangeShapes Go.WideShapes Go.ChangeAt Go.RowKit Go.Deep
set_option linter.unusedVariables false
set_option linter.unusedSimpArgs false

set_option maxRecDepth 100000 in
set_option maxHeartbeats 8000000 in
theorem refppdu_any (r : Rt) (n : Int) (w : World) (hs : -9223372036854775808 ≤ r.s ∧ r.s ≤ 9223372036854775807) :
    Calls Tryd.prog 15 #[r.val, .int .i64 n] w fun e w' => e = .returned (.int .i64 (ppduR r n)) ∧ Below w.heap.size w w' := by
  have HSB := Lib.hid hs
  clear hs
  have HB := Lib.hid ((Below.refl w.heap.size w).alloc (Nat.le_refl _) (.cells r.arr 23))
  have HG := Lib.hid (heap_alloc_last w (.cells r.arr 23))
  go_enter Tryd.func15, Tryd.ntmps15
  go_wp2_with (fail)
  generalize World.alloc w _ = w2 at *
  refine (refvalid_any r w2 HSB.out).mono ?_
  rintro e w3 ⟨rfl, hB⟩
  have T0 := Lib.hid (HB.out.trans (hB.mono HB.out.size))
  have T1 := Lib.hid ((hB.block _ (lt_blk HG.out)).trans HG.out)
  clear hB HB HG
  have HB := T0
  have HG := T1
  clear T0 T1
  cases hv : validR r
  · have HE := Lib.hid (ppdu_no (show okA r n = false by unfold okA; rw [hv]; rfl))
    go_wp2
    go_ret
    exact ⟨ret_int HE.out.symm, HB.out⟩
  cases h1 : decide (0 ≤ n)
  · have HE := Lib.hid (ppdu_no (show okA r n = false by unfold okA; rw [hv, h1]; rfl))
    have h1' : decide (n < 0) = true := by have := of_decide_eq_false h1; simp; omega
    go_wp2
    go_ret
    exact ⟨ret_int HE.out.symm, HB.out⟩
  cases h2 : decide (n ≤ 1048576)
  · have HE := Lib.hid (ppdu_no (show okA r n = false by unfold okA; rw [hv, h1, h2]; rfl))
    have h1' : decide (n < 0) = false := by have := of_decide_eq_true h1; simp; omega
    have h2' : decide (1048576 < n) = true := by have := of_decide_eq_false h2; simp; omega
    go_wp2
    go_ret
    exact ⟨ret_int HE.out.symm, HB.out⟩
  have hok : okA r n = true := by unfold okA; rw [hv, h1, h2]; rfl
  have h1' : decide (n < 0) = false := by have := of_decide_eq_true h1; simp; omega
  have h2' : decide (1048576 < n) = false := by have := of_decide_eq_true h2; simp; omega
  clear hv h1 h2
  have hv := hok
  clear hok
  have HP := Lib.hid (ppdu_of hv)
  have HV := Lib.hid (okA_iff.1 hv)
  clear hv
  have HL := Lib.hid (least_of HV.out.1)
  have HM := Lib.hid (most_of HV.out.1)
  have HS := Lib.hid (prod_in (a := symsA (bitsR r) n) (b := symR r) (A := 349527) (B := 160) (by have := syms_pos (b := bitsR r) (n := n) (by have := HL.out.1; omega) HV.out.2.1; omega) (syms_le HL.out.1 HV.out.2.1 HV.out.2.2) (by have := HL.out.2.1; omega) HM.out.2.1)
  have HG' := Lib.hid (fun (w' : World) (hB : Below w3.heap.size w3 w') => (hB.block _ (lt_blk HG.out)).trans HG.out)
  obtain ⟨h24, h36, h200⟩ := HL.out
  obtain ⟨hb1, hb2, hb3⟩ := HM.out
  obtain ⟨-, hn0, hn1⟩ := HV.out
  have HSY := Lib.hid (show (22 + 8 * n + bitsR r - 1) / bitsR r = symsA (bitsR r) n from rfl)
  go_wp2_with (fail)
  clear h1' h2'
  have hadd : IntKind.i64.wrap (22 + 8 * n + bitsR r) = 22 + 8 * n + bitsR r := IntWalk.i64_in _ ⟨by omega, by omega⟩
  have hsub : IntKind.i64.wrap (22 + 8 * n + bitsR r - 1) = 22 + 8 * n + bitsR r - 1 := IntWalk.i64_in _ ⟨by omega, by omega⟩
  have hb0 : ¬ bitsR r = 0 := by omega
  have hquo : IntKind.i64.wrap ((22 + 8 * n + bitsR r - 1).tdiv (bitsR r)) = symsA (bitsR r) n := by
    rw [Int.tdiv_eq_ediv_of_nonneg (by omega), HSY.out]
    exact IntWalk.i64_in _ ⟨by have := syms_pos (b := bitsR r) (n := n) (by omega) hn0; omega, by have := syms_le h24 hn0 hn1; omega⟩
  clear h24 h36 h200 hb1 hb2 hb3 hn0 hn1
  refine wp_region_held_drew (S := fun w' => Below w3.heap.size w3 w') (by kernel_rfl) (Below.refl _ _).drew (fun hHeld => ?_)
  generalize World.drew w3 = w3 at *
  have HZ3 := Lib.hid hHeld
  refine wpAnyH_take (i := 0) (v := ?_) rfl (by kernel_rfl) (by kernel_rfl) (by kernel_rfl) (fun _ _ _ h => h) (Or.inl ⟨by rfl, ?_⟩) (by assumption) ?_
  rotate_left
  · intro w hSw
    clear hSw
    go_simp
    try with_reducible rfl
  try simp only [Act.put, List.getElem_toArray, List.getElem_cons_zero, List.getElem_cons_succ, List.setIfInBounds_toArray, List.set_cons_zero, List.set_cons_succ]
  refine wpAnyH_take (i := 1) (v := .agg r.arr) rfl (by kernel_rfl) (by kernel_rfl) (by kernel_rfl) (fun _ _ _ h => h) (yieldsIf_load_mid (by rfl) 23 (.tmp 2) rfl w.heap.size (0) rfl (r.arr).toList _ (fun w' hw' => block_range (HG'.out w' hw')) Tryd.underlying23 rfl sizeRate) (by assumption) ?_
  try simp only [Act.put, List.getElem_toArray, List.getElem_cons_zero, List.getElem_cons_succ, List.setIfInBounds_toArray, List.set_cons_zero, List.set_cons_succ]
  refine wpAnyH_take (i := 5) (v := .agg r.arr) rfl (by kernel_rfl) (by kernel_rfl) (by kernel_rfl) (fun _ _ _ h => h) (yieldsIf_load_mid (by rfl) 23 (.tmp 2) rfl w.heap.size (0) rfl (r.arr).toList _ (fun w' hw' => block_range (HG'.out w' hw')) Tryd.underlying23 rfl sizeRate) (by assumption) ?_
  try simp only [Act.put, List.getElem_toArray, List.getElem_cons_zero, List.getElem_cons_succ, List.setIfInBounds_toArray, List.set_cons_zero, List.set_cons_succ]
  refine wpAnyH_ready (rs := [2]) (by kernel_rfl) (by simp) ?_
  refine AllReadyH.cons rfl (fun K hK => ?_) AllReadyH.nil
  go_simp
  refine (refbits_any r w3 HSB.out).mono ?_
  rintro e' w4 ⟨rfl, hb⟩
  have HZ4 := Lib.hid (HZ3.out.trans (hb.mono HZ3.out.size))
  clear hb hHeld HZ3
  refine hK.out _ _ HZ4.out (fun hHeld => ?_)
  clear hK K
  try simp only [Act.put, List.getElem_toArray, List.getElem_cons_zero, List.getElem_cons_succ, List.setIfInBounds_toArray, List.set_cons_zero, List.set_cons_succ]
  refine wpAnyH_take (i := 3) (v := ?_) rfl (by kernel_rfl) (by kernel_rfl) (by kernel_rfl) (fun _ _ _ h => h) (Or.inl ⟨by rfl, ?_⟩) (by assumption) ?_
  rotate_left
  · intro w hSw
    clear hSw
    go_simp
    try with_reducible rfl
  try simp only [Act.put, List.getElem_toArray, List.getElem_cons_zero, List.getElem_cons_succ, List.setIfInBounds_toArray, List.set_cons_zero, List.set_cons_succ]
  refine wpAnyH_take (i := 4) (v := ?_) rfl (by kernel_rfl) (by kernel_rfl) (by kernel_rfl) (fun _ _ _ h => h) (Or.inl ⟨by rfl, ?_⟩) (by assumption) ?_
  rotate_left
  · intro w hSw
    clear hSw
    go_simp
    try with_reducible rfl
  try simp only [Act.put, List.getElem_toArray, List.getElem_cons_zero, List.getElem_cons_succ, List.setIfInBounds_toArray, List.set_cons_zero, List.set_cons_succ]
  refine wpAnyH_ready (rs := [6]) (by kernel_rfl) (by simp) ?_
  refine AllReadyH.cons rfl (fun K hK => ?_) AllReadyH.nil
  go_simp
  refine (refbits_any r w4 HSB.out).mono ?_
  rintro e' w5 ⟨rfl, hb⟩
  have HZ5 := Lib.hid (HZ4.out.trans (hb.mono HZ4.out.size))
  clear hb hHeld HZ4
  refine hK.out _ _ HZ5.out (fun hHeld => ?_)
  clear hK K
  try simp only [Act.put, List.getElem_toArray, List.getElem_cons_zero, List.getElem_cons_succ, List.setIfInBounds_toArray, List.set_cons_zero, List.set_cons_succ]
  refine wpAnyH_take (i := 7) (v := ?_) rfl (by kernel_rfl) (by kernel_rfl) (by kernel_rfl) (fun _ _ _ h => h) (Or.inl ⟨by rfl, ?_⟩) (by assumption) ?_
  rotate_left
  · intro w hSw
    clear hSw
    go_simp
    try with_reducible rfl
  try simp only [Act.put, List.getElem_toArray, List.getElem_cons_zero, List.getElem_cons_succ, List.setIfInBounds_toArray, List.set_cons_zero, List.set_cons_succ]
  refine wpAnyH_take (i := 8) (v := ?_) rfl (by kernel_rfl) (by kernel_rfl) (by kernel_rfl) (fun _ _ _ h => h) (Or.inl ⟨by rfl, ?_⟩) (by assumption) ?_
  rotate_left
  · intro w hSw
    clear hSw
    go_simp
    try with_reducible rfl
  try simp only [Act.put, List.getElem_toArray, List.getElem_cons_zero, List.getElem_cons_succ, List.setIfInBounds_toArray, List.set_cons_zero, List.set_cons_succ]
  refine wpAnyH_done (by kernel_rfl) ?_ _
  try simp only [Act.put, List.getElem_toArray, List.getElem_cons_zero, List.getElem_cons_succ, List.setIfInBounds_toArray, List.set_cons_zero, List.set_cons_succ]
  have T0 := Lib.hid (HB.out.trans (HZ5.out.mono HB.out.size))
  have T1 := Lib.hid (HG'.out _ HZ5.out)
  clear HB HG HG' HZ5 hHeld hadd hsub hb0 hquo
  have HB := T0
  have HG := T1
  clear T0 T1
  generalize symsA (bitsR r) n = q at *
  have h24 := HL.out.1
  have h36 := HL.out.1
  have h200 := HL.out.1
  have hb1 := HL.out.1
  have hb2 := HL.out.1
  have hb3 := HL.out.1
  have hn0 := HL.out.1
  have hn1 := HL.out.1
  go_wp2_with (fail)
  have hwm : IntKind.i64.wrap (q * symR r) = q * symR r := IntWalk.i64_in _ ⟨by have := HS.out; omega, by have := HS.out; omega⟩
  have hwa : IntKind.i64.wrap (preR r + q * symR r) = preR r + q * symR r := IntWalk.i64_in _ ⟨by have := HS.out; have := HL.out.2.2; have := HM.out.2.2; omega, by have := HS.out; have := HL.out.2.2; have := HM.out.2.2; omega⟩
  clear h24 h36 h200 hb1 hb2 hb3 hn0 hn1
  have HG' := Lib.hid (fun (w' : World) (hB : Below w5.heap.size w5 w') => (hB.block _ (lt_blk HG.out)).trans HG.out)
  refine wp_region_held_drew (S := fun w' => Below w5.heap.size w5 w') (by kernel_rfl) (Below.refl _ _).drew (fun hHeld => ?_)
  generalize World.drew w5 = w5 at *
  have HY5 := Lib.hid hHeld
  refine wpAnyH_take (i := 0) (v := .agg r.arr) rfl (by kernel_rfl) (by kernel_rfl) (by kernel_rfl) (fun _ _ _ h => h) (yieldsIf_load_mid (by rfl) 23 (.tmp 2) rfl w.heap.size (0) rfl (r.arr).toList _ (fun w' hw' => block_range (HG'.out w' hw')) Tryd.underlying23 rfl sizeRate) (by assumption) ?_
  try simp only [Act.put, List.getElem_toArray, List.getElem_cons_zero, List.getElem_cons_succ, List.setIfInBounds_toArray, List.set_cons_zero, List.set_cons_succ]
  refine wpAnyH_take (i := 2) (v := ?_) rfl (by kernel_rfl) (by kernel_rfl) (by kernel_rfl) (fun _ _ _ h => h) (Or.inl ⟨by rfl, ?_⟩) (by assumption) ?_
  rotate_left
  · intro w hSw
    clear hSw
    go_simp
    try with_reducible rfl
  try simp only [Act.put, List.getElem_toArray, List.getElem_cons_zero, List.getElem_cons_succ, List.setIfInBounds_toArray, List.set_cons_zero, List.set_cons_succ]
  refine wpAnyH_take (i := 3) (v := .agg r.arr) rfl (by kernel_rfl) (by kernel_rfl) (by kernel_rfl) (fun _ _ _ h => h) (yieldsIf_load_mid (by rfl) 23 (.tmp 2) rfl w.heap.size (0) rfl (r.arr).toList _ (fun w' hw' => block_range (HG'.out w' hw')) Tryd.underlying23 rfl sizeRate) (by assumption) ?_
  try simp only [Act.put, List.getElem_toArray, List.getElem_cons_zero, List.getElem_cons_succ, List.setIfInBounds_toArray, List.set_cons_zero, List.set_cons_succ]
  refine wpAnyH_ready (rs := [1]) (by kernel_rfl) (by simp) ?_
  refine AllReadyH.cons rfl (fun K hK => ?_) AllReadyH.nil
  go_simp
  refine (refpre_any r w5 HSB.out).mono ?_
  rintro e' w6 ⟨rfl, hb⟩
  have HY6 := Lib.hid (HY5.out.trans (hb.mono HY5.out.size))
  clear hb hHeld HY5
  refine hK.out _ _ HY6.out (fun hHeld => ?_)
  clear hK K
  try simp only [Act.put, List.getElem_toArray, List.getElem_cons_zero, List.getElem_cons_succ, List.setIfInBounds_toArray, List.set_cons_zero, List.set_cons_succ]
  refine wpAnyH_ready (rs := [4]) (by kernel_rfl) (by simp) ?_
  refine AllReadyH.cons rfl (fun K hK => ?_) AllReadyH.nil
  go_simp
  refine (refsym_any r w6 HSB.out).mono ?_
  rintro e' w7 ⟨rfl, hb⟩
  have HY7 := Lib.hid (HY6.out.trans (hb.mono HY6.out.size))
  clear hb hHeld HY6
  refine hK.out _ _ HY7.out (fun hHeld => ?_)
  clear hK K
  try simp only [Act.put, List.getElem_toArray, List.getElem_cons_zero, List.getElem_cons_succ, List.setIfInBounds_toArray, List.set_cons_zero, List.set_cons_succ]
  refine wpAnyH_take (i := 5) (v := ?_) rfl (by kernel_rfl) (by kernel_rfl) (by kernel_rfl) (fun _ _ _ h => h) (Or.inl ⟨by rfl, ?_⟩) (by assumption) ?_
  rotate_left
  · intro w hSw
    clear hSw
    go_simp
    try with_reducible rfl
  try simp only [Act.put, List.getElem_toArray, List.getElem_cons_zero, List.getElem_cons_succ, List.setIfInBounds_toArray, List.set_cons_zero, List.set_cons_succ]
  refine wpAnyH_take (i := 6) (v := ?_) rfl (by kernel_rfl) (by kernel_rfl) (by kernel_rfl) (fun _ _ _ h => h) (Or.inl ⟨by rfl, ?_⟩) (by assumption) ?_
  rotate_left
  · intro w hSw
    clear hSw
    go_simp
    try with_reducible rfl
  try simp only [Act.put, List.getElem_toArray, List.getElem_cons_zero, List.getElem_cons_succ, List.setIfInBounds_toArray, List.set_cons_zero, List.set_cons_succ]
  refine wpAnyH_take (i := 7) (v := ?_) rfl (by kernel_rfl) (by kernel_rfl) (by kernel_rfl) (fun _ _ _ h => h) (Or.inl ⟨by rfl, ?_⟩) (by assumption) ?_
  rotate_left
  · intro w hSw
    clear hSw
    go_simp
    try with_reducible rfl
  try simp only [Act.put, List.getElem_toArray, List.getElem_cons_zero, List.getElem_cons_succ, List.setIfInBounds_toArray, List.set_cons_zero, List.set_cons_succ]
  refine wpAnyH_done (by kernel_rfl) ?_ _
  try simp only [Act.put, List.getElem_toArray, List.getElem_cons_zero, List.getElem_cons_succ, List.setIfInBounds_toArray, List.set_cons_zero, List.set_cons_succ]
  go_wp2
  go_ret
  exact ⟨ret_int HP.out.symm, HB.out.trans (HY7.out.mono HB.out.size)⟩
end Go.Proofs.YtlkoleannlpflaaDoor
