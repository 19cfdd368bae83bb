/-
  CONTRACTS of the reference's Ppdu, Answer, Total, Most: each in one, of whatever rate, length, time.
-/
import Derived.Test.YtpjmpgienhdccaaDoorRateG
import Derived.Test.YtpjmpgienhdccaaDoorAirA
import Derived.Deep.RegionHeld3
namespace Go.Proofs.YtpjmpgienhdccaaDoor
open Go.ChangeShapes Go.WideShapes Go.ChangeAt Go.RowKit Go.Deep
set_option linter.unusedVariables false
set_option linter.unusedSimpArgs false

set_option maxRecDepth 100000 in
set_option maxHeartbeats 8000000 in
theorem refppdu_any (r : Rt) (n : Int) (w : World) (hs : -9223372036854775808 ≤ r.s ∧ r.s ≤ 9223372036854775807) :
    Calls Tryd.prog 16 #[r.val, .int .i64 n] w fun e w' => e = .returned (.int .i64 (ppduR r n)) ∧ Below w.heap.size w w' := by
  have HSB := Lib.hid hs
  clear hs
  have HB := Lib.hid ((Below.refl w.heap.size w).alloc (Nat.le_refl _) (.cells r.arr 27))
  have HG := Lib.hid (heap_alloc_last w (.cells r.arr 27))
  go_enter Tryd.func16, Tryd.ntmps16
  go_wp2_with (fail)
  generalize World.alloc w _ = w2 at *
  refine (refvalid_any r w2 HSB.out).mono ?_
  rintro e w3 ⟨rfl, hB⟩
  have T0 := Lib.hid (HB.out.trans (hB.mono HB.out.size))
  have T1 := Lib.hid ((hB.block _ (lt_blk HG.out)).trans HG.out)
  clear hB HB HG
  have HB := T0
  have HG := T1
  clear T0 T1
  cases hv : validR r
  · have HE := Lib.hid (ppdu_no (show okA r n = false by unfold okA; rw [hv]; rfl))
    go_wp2
    go_ret
    exact ⟨ret_int HE.out.symm, HB.out⟩
  cases h1 : decide (0 ≤ n)
  · have HE := Lib.hid (ppdu_no (show okA r n = false by unfold okA; rw [hv, h1]; rfl))
    have h1' : decide (n < 0) = true := by have := of_decide_eq_false h1; simp; omega
    go_wp2
    go_ret
    exact ⟨ret_int HE.out.symm, HB.out⟩
  cases h2 : decide (n ≤ 1048576)
  · have HE := Lib.hid (ppdu_no (show okA r n = false by unfold okA; rw [hv, h1, h2]; rfl))
    have h1' : decide (n < 0) = false := by have := of_decide_eq_true h1; simp; omega
    have h2' : decide (1048576 < n) = true := by have := of_decide_eq_false h2; simp; omega
    go_wp2
    go_ret
    exact ⟨ret_int HE.out.symm, HB.out⟩
  have hok : okA r n = true := by unfold okA; rw [hv, h1, h2]; rfl
  have h1' : decide (n < 0) = false := by have := of_decide_eq_true h1; simp; omega
  have h2' : decide (1048576 < n) = false := by have := of_decide_eq_true h2; simp; omega
  clear hv h1 h2
  have hv := hok
  clear hok
  have HP := Lib.hid (ppdu_of hv)
  have HV := Lib.hid (okA_iff.1 hv)
  clear hv
  have HL := Lib.hid (least_of HV.out.1)
  have HM := Lib.hid (most_of HV.out.1)
  have HS := Lib.hid (prod_in (a := symsA (bitsR r) n) (b := symR r) (A := 349527) (B := 160) (by have := syms_pos (b := bitsR r) (n := n) (by have := HL.out.1; omega) HV.out.2.1; omega) (syms_le HL.out.1 HV.out.2.1 HV.out.2.2) (by have := HL.out.2.1; omega) HM.out.2.1)
  have HG' := Lib.hid (fun (w' : World) (hB : Below w3.heap.size w3 w') => (hB.block _ (lt_blk HG.out)).trans HG.out)
  obtain ⟨h24, h36, h200⟩ := HL.out
  obtain ⟨hb1, hb2, hb3⟩ := HM.out
  obtain ⟨-, hn0, hn1⟩ := HV.out
  have HSY := Lib.hid (show (22 + 8 * n + bitsR r - 1) / bitsR r = symsA (bitsR r) n from rfl)
  go_wp2_with (fail)
  clear h1' h2'
  have hadd : IntKind.i64.wrap (22 + 8 * n + bitsR r) = 22 + 8 * n + bitsR r := IntWalk.i64_in _ ⟨by omega, by omega⟩
  have hsub : IntKind.i64.wrap (22 + 8 * n + bitsR r - 1) = 22 + 8 * n + bitsR r - 1 := IntWalk.i64_in _ ⟨by omega, by omega⟩
  have hb0 : ¬ bitsR r = 0 := by omega
  have hquo : IntKind.i64.wrap ((22 + 8 * n + bitsR r - 1).tdiv (bitsR r)) = symsA (bitsR r) n := by
    rw [Int.tdiv_eq_ediv_of_nonneg (by omega), HSY.out]
    exact IntWalk.i64_in _ ⟨by have := syms_pos (b := bitsR r) (n := n) (by omega) hn0; omega, by have := syms_le h24 hn0 hn1; omega⟩
  clear h24 h36 h200 hb1 hb2 hb3 hn0 hn1
  refine wp_region_held_drew (S := fun w' => Below w3.heap.size w3 w') (by kernel_rfl) (Below.refl _ _).drew (fun hHeld => ?_)
  generalize World.drew w3 = w3 at *
  have HZ3 := Lib.hid hHeld
  refine wpAnyH_take (i := 0) (v := ?_) rfl (by kernel_rfl) (by kernel_rfl) (by kernel_rfl) (fun _ _ _ h => h) (Or.inl ⟨by rfl, ?_⟩) (by assumption) ?_
  rotate_left
  · intro w hSw
    clear hSw
    go_simp
    try with_reducible rfl
  try simp only [Act.put, List.getElem_toArray, List.getElem_cons_zero, List.getElem_cons_succ, List.setIfInBounds_toArray, List.set_cons_zero, List.set_cons_succ]
  refine wpAnyH_take (i := 1) (v := .agg r.arr) rfl (by kernel_rfl) (by kernel_rfl) (by kernel_rfl) (fun _ _ _ h => h) (yieldsIf_load_mid (by rfl) 27 (.tmp 2) rfl w.heap.size (0) rfl (r.arr).toList _ (fun w' hw' => block_range (HG'.out w' hw')) Tryd.underlying27 rfl sizeRate) (by assumption) ?_
  try simp only [Act.put, List.getElem_toArray, List.getElem_cons_zero, List.getElem_cons_succ, List.setIfInBounds_toArray, List.set_cons_zero, List.set_cons_succ]
  refine wpAnyH_take (i := 5) (v := .agg r.arr) rfl (by kernel_rfl) (by kernel_rfl) (by kernel_rfl) (fun _ _ _ h => h) (yieldsIf_load_mid (by rfl) 27 (.tmp 2) rfl w.heap.size (0) rfl (r.arr).toList _ (fun w' hw' => block_range (HG'.out w' hw')) Tryd.underlying27 rfl sizeRate) (by assumption) ?_
  try simp only [Act.put, List.getElem_toArray, List.getElem_cons_zero, List.getElem_cons_succ, List.setIfInBounds_toArray, List.set_cons_zero, List.set_cons_succ]
  refine wpAnyH_ready (rs := [2]) (by kernel_rfl) (by simp) ?_
  refine AllReadyH.cons rfl (fun K hK => ?_) AllReadyH.nil
  go_simp
  refine (refbits_any r w3 HSB.out).mono ?_
  rintro e' w4 ⟨rfl, hb⟩
  have HZ4 := Lib.hid (HZ3.out.trans (hb.mono HZ3.out.size))
  clear hb hHeld HZ3
  refine hK.out _ _ HZ4.out (fun hHeld => ?_)
  clear hK K
  try simp only [Act.put, List.getElem_toArray, List.getElem_cons_zero, List.getElem_cons_succ, List.setIfInBounds_toArray, List.set_cons_zero, List.set_cons_succ]
  refine wpAnyH_take (i := 3) (v := ?_) rfl (by kernel_rfl) (by kernel_rfl) (by kernel_rfl) (fun _ _ _ h => h) (Or.inl ⟨by rfl, ?_⟩) (by assumption) ?_
  rotate_left
  · intro w hSw
    clear hSw
    go_simp
    try with_reducible rfl
  try simp only [Act.put, List.getElem_toArray, List.getElem_cons_zero, List.getElem_cons_succ, List.setIfInBounds_toArray, List.set_cons_zero, List.set_cons_succ]
  refine wpAnyH_take (i := 4) (v := ?_) rfl (by kernel_rfl) (by kernel_rfl) (by kernel_rfl) (fun _ _ _ h => h) (Or.inl ⟨by rfl, ?_⟩) (by assumption) ?_
  rotate_left
  · intro w hSw
    clear hSw
    go_simp
    try with_reducible rfl
  try simp only [Act.put, List.getElem_toArray, List.getElem_cons_zero, List.getElem_cons_succ, List.setIfInBounds_toArray, List.set_cons_zero, List.set_cons_succ]
  refine wpAnyH_ready (rs := [6]) (by kernel_rfl) (by simp) ?_
  refine AllReadyH.cons rfl (fun K hK => ?_) AllReadyH.nil
  go_simp
  refine (refbits_any r w4 HSB.out).mono ?_
  rintro e' w5 ⟨rfl, hb⟩
  have HZ5 := Lib.hid (HZ4.out.trans (hb.mono HZ4.out.size))
  clear hb hHeld HZ4
  refine hK.out _ _ HZ5.out (fun hHeld => ?_)
  clear hK K
  try simp only [Act.put, List.getElem_toArray, List.getElem_cons_zero, List.getElem_cons_succ, List.setIfInBounds_toArray, List.set_cons_zero, List.set_cons_succ]
  refine wpAnyH_take (i := 7) (v := ?_) rfl (by kernel_rfl) (by kernel_rfl) (by kernel_rfl) (fun _ _ _ h => h) (Or.inl ⟨by rfl, ?_⟩) (by assumption) ?_
  rotate_left
  · intro w hSw
    clear hSw
    go_simp
    try with_reducible rfl
  try simp only [Act.put, List.getElem_toArray, List.getElem_cons_zero, List.getElem_cons_succ, List.setIfInBounds_toArray, List.set_cons_zero, List.set_cons_succ]
  refine wpAnyH_take (i := 8) (v := ?_) rfl (by kernel_rfl) (by kernel_rfl) (by kernel_rfl) (fun _ _ _ h => h) (Or.inl ⟨by rfl, ?_⟩) (by assumption) ?_
  rotate_left
  · intro w hSw
    clear hSw
    go_simp
    try with_reducible rfl
  try simp only [Act.put, List.getElem_toArray, List.getElem_cons_zero, List.getElem_cons_succ, List.setIfInBounds_toArray, List.set_cons_zero, List.set_cons_succ]
  refine wpAnyH_done (by kernel_rfl) ?_ _
  try simp only [Act.put, List.getElem_toArray, List.getElem_cons_zero, List.getElem_cons_succ, List.setIfInBounds_toArray, List.set_cons_zero, List.set_cons_succ]
  have T0 := Lib.hid (HB.out.trans (HZ5.out.mono HB.out.size))
  have T1 := Lib.hid (HG'.out _ HZ5.out)
  clear HB HG HG' HZ5 hHeld hadd hsub hb0 hquo
  have HB := T0
  have HG := T1
  clear T0 T1
  generalize symsA (bitsR r) n = q at *
  have h24 := HL.out.1
  have h36 := HL.out.1
  have h200 := HL.out.1
  have hb1 := HL.out.1
  have hb2 := HL.out.1
  have hb3 := HL.out.1
  have hn0 := HL.out.1
  have hn1 := HL.out.1
  go_wp2_with (fail)
  have hwm : IntKind.i64.wrap (q * symR r) = q * symR r := IntWalk.i64_in _ ⟨by have := HS.out; omega, by have := HS.out; omega⟩
  have hwa : IntKind.i64.wrap (preR r + q * symR r) = preR r + q * symR r := IntWalk.i64_in _ ⟨by have := HS.out; have := HL.out.2.2; have := HM.out.2.2; omega, by have := HS.out; have := HL.out.2.2; have := HM.out.2.2; omega⟩
  clear h24 h36 h200 hb1 hb2 hb3 hn0 hn1
  have HG' := Lib.hid (fun (w' : World) (hB : Below w5.heap.size w5 w') => (hB.block _ (lt_blk HG.out)).trans HG.out)
  refine wp_region_held_drew (S := fun w' => Below w5.heap.size w5 w') (by kernel_rfl) (Below.refl _ _).drew (fun hHeld => ?_)
  generalize World.drew w5 = w5 at *
  have HY5 := Lib.hid hHeld
  refine wpAnyH_take (i := 0) (v := .agg r.arr) rfl (by kernel_rfl) (by kernel_rfl) (by kernel_rfl) (fun _ _ _ h => h) (yieldsIf_load_mid (by rfl) 27 (.tmp 2) rfl w.heap.size (0) rfl (r.arr).toList _ (fun w' hw' => block_range (HG'.out w' hw')) Tryd.underlying27 rfl sizeRate) (by assumption) ?_
  try simp only [Act.put, List.getElem_toArray, List.getElem_cons_zero, List.getElem_cons_succ, List.setIfInBounds_toArray, List.set_cons_zero, List.set_cons_succ]
  refine wpAnyH_take (i := 2) (v := ?_) rfl (by kernel_rfl) (by kernel_rfl) (by kernel_rfl) (fun _ _ _ h => h) (Or.inl ⟨by rfl, ?_⟩) (by assumption) ?_
  rotate_left
  · intro w hSw
    clear hSw
    go_simp
    try with_reducible rfl
  try simp only [Act.put, List.getElem_toArray, List.getElem_cons_zero, List.getElem_cons_succ, List.setIfInBounds_toArray, List.set_cons_zero, List.set_cons_succ]
  refine wpAnyH_take (i := 3) (v := .agg r.arr) rfl (by kernel_rfl) (by kernel_rfl) (by kernel_rfl) (fun _ _ _ h => h) (yieldsIf_load_mid (by rfl) 27 (.tmp 2) rfl w.heap.size (0) rfl (r.arr).toList _ (fun w' hw' => block_range (HG'.out w' hw')) Tryd.underlying27 rfl sizeRate) (by assumption) ?_
  try simp only [Act.put, List.getElem_toArray, List.getElem_cons_zero, List.getElem_cons_succ, List.setIfInBounds_toArray, List.set_cons_zero, List.set_cons_succ]
  refine wpAnyH_ready (rs := [1]) (by kernel_rfl) (by simp) ?_
  refine AllReadyH.cons rfl (fun K hK => ?_) AllReadyH.nil
  go_simp
  refine (refpre_any r w5 HSB.out).mono ?_
  rintro e' w6 ⟨rfl, hb⟩
  have HY6 := Lib.hid (HY5.out.trans (hb.mono HY5.out.size))
  clear hb hHeld HY5
  refine hK.out _ _ HY6.out (fun hHeld => ?_)
  clear hK K
  try simp only [Act.put, List.getElem_toArray, List.getElem_cons_zero, List.getElem_cons_succ, List.setIfInBounds_toArray, List.set_cons_zero, List.set_cons_succ]
  refine wpAnyH_ready (rs := [4]) (by kernel_rfl) (by simp) ?_
  refine AllReadyH.cons rfl (fun K hK => ?_) AllReadyH.nil
  go_simp
  refine (refsym_any r w6 HSB.out).mono ?_
  rintro e' w7 ⟨rfl, hb⟩
  have HY7 := Lib.hid (HY6.out.trans (hb.mono HY6.out.size))
  clear hb hHeld HY6
  refine hK.out _ _ HY7.out (fun hHeld => ?_)
  clear hK K
  try simp only [Act.put, List.getElem_toArray, List.getElem_cons_zero, List.getElem_cons_succ, List.setIfInBounds_toArray, List.set_cons_zero, List.set_cons_succ]
  refine wpAnyH_take (i := 5) (v := ?_) rfl (by kernel_rfl) (by kernel_rfl) (by kernel_rfl) (fun _ _ _ h => h) (Or.inl ⟨by rfl, ?_⟩) (by assumption) ?_
  rotate_left
  · intro w hSw
    clear hSw
    go_simp
    try with_reducible rfl
  try simp only [Act.put, List.getElem_toArray, List.getElem_cons_zero, List.getElem_cons_succ, List.setIfInBounds_toArray, List.set_cons_zero, List.set_cons_succ]
  refine wpAnyH_take (i := 6) (v := ?_) rfl (by kernel_rfl) (by kernel_rfl) (by kernel_rfl) (fun _ _ _ h => h) (Or.inl ⟨by rfl, ?_⟩) (by assumption) ?_
  rotate_left
  · intro w hSw
    clear hSw
    go_simp
    try with_reducible rfl
  try simp only [Act.put, List.getElem_toArray, List.getElem_cons_zero, List.getElem_cons_succ, List.setIfInBounds_toArray, List.set_cons_zero, List.set_cons_succ]
  refine wpAnyH_take (i := 7) (v := ?_) rfl (by kernel_rfl) (by kernel_rfl) (by kernel_rfl) (fun _ _ _ h => h) (Or.inl ⟨by rfl, ?_⟩) (by assumption) ?_
  rotate_left
  · intro w hSw
    clear hSw
    go_simp
    try with_reducible rfl
  try simp only [Act.put, List.getElem_toArray, List.getElem_cons_zero, List.getElem_cons_succ, List.setIfInBounds_toArray, List.set_cons_zero, List.set_cons_succ]
  refine wpAnyH_done (by kernel_rfl) ?_ _
  try simp only [Act.put, List.getElem_toArray, List.getElem_cons_zero, List.getElem_cons_succ, List.setIfInBounds_toArray, List.set_cons_zero, List.set_cons_succ]
  go_wp2
  go_ret
  exact ⟨ret_int HP.out.symm, HB.out.trans (HY7.out.mono HB.out.size)⟩
set_option maxRecDepth 100000 in
set_option maxHeartbeats 8000000 in
theorem refanswer_any (w : World)  :
    Calls Tryd.prog 17 #[] w fun e w' => e = .returned (.int .i64 480) ∧ Below w.heap.size w w' := by
  have HB := Lib.hid (Below.refl w.heap.size w)
  go_enter Tryd.func17, Tryd.ntmps17
  go_wp2_with (fail)
  refine (refppdu_any ⟨1, 4, 1, 20, 0⟩ 32 w (by decide)).mono ?_
  rintro e w3 ⟨rfl, hB⟩
  rw [ppdu_ans]
  have T0 := Lib.hid (HB.out.trans (hB.mono HB.out.size))
  clear hB HB
  have HB := T0
  clear T0
  go_wp2
  go_ret
  exact ⟨rfl, HB.out⟩
set_option maxRecDepth 100000 in
set_option maxHeartbeats 8000000 in
theorem reftotal_any (r : Rt) (n : Int) (w : World) (hs : -9223372036854775808 ≤ r.s ∧ r.s ≤ 9223372036854775807) :
    Calls Tryd.prog 18 #[r.val, .int .i64 n] w fun e w' => e = .returned (.int .i64 (totR r n)) ∧ Below w.heap.size w w' := by
  have HSB := Lib.hid hs
  clear hs
  have HB := Lib.hid ((Below.refl w.heap.size w).alloc (Nat.le_refl _) (.cells r.arr 27))
  have HG := Lib.hid (heap_alloc_last w (.cells r.arr 27))
  go_enter Tryd.func18, Tryd.ntmps18
  go_wp2_with (fail)
  generalize World.alloc w _ = w2 at *
  refine (refvalid_any r w2 HSB.out).mono ?_
  rintro e w3 ⟨rfl, hB⟩
  have T0 := Lib.hid (HB.out.trans (hB.mono HB.out.size))
  have T1 := Lib.hid ((hB.block _ (lt_blk HG.out)).trans HG.out)
  clear hB HB HG
  have HB := T0
  have HG := T1
  clear T0 T1
  cases hv : validR r
  · have HE := Lib.hid (tot_no (show okA r n = false by unfold okA; rw [hv]; rfl))
    go_wp2
    go_ret
    exact ⟨ret_int HE.out.symm, HB.out⟩
  cases h1 : decide (0 ≤ n)
  · have HE := Lib.hid (tot_no (show okA r n = false by unfold okA; rw [hv, h1]; rfl))
    have h1' : decide (n < 0) = true := by have := of_decide_eq_false h1; simp; omega
    go_wp2
    go_ret
    exact ⟨ret_int HE.out.symm, HB.out⟩
  cases h2 : decide (n ≤ 1048576)
  · have HE := Lib.hid (tot_no (show okA r n = false by unfold okA; rw [hv, h1, h2]; rfl))
    have h1' : decide (n < 0) = false := by have := of_decide_eq_true h1; simp; omega
    have h2' : decide (1048576 < n) = true := by have := of_decide_eq_false h2; simp; omega
    go_wp2
    go_ret
    exact ⟨ret_int HE.out.symm, HB.out⟩
  have hok : okA r n = true := by unfold okA; rw [hv, h1, h2]; rfl
  have h1' : decide (n < 0) = false := by have := of_decide_eq_true h1; simp; omega
  have h2' : decide (1048576 < n) = false := by have := of_decide_eq_true h2; simp; omega
  clear hv h1 h2
  have hv := hok
  clear hok
  have HE := Lib.hid (tot_of hv)
  clear hv
  have hx0 := rt_cell (r := r) HG.out 0
  have hx1 := rt_cell (r := r) HG.out 1
  have hx2 := rt_cell (r := r) HG.out 2
  have hx3 := rt_cell (r := r) HG.out 3
  have hx4 := rt_cell (r := r) HG.out 4
  dsimp only [Rt.arr] at hx0 hx1 hx2 hx3 hx4
  simp only [List.getElem?_toArray, List.getElem?_cons_zero, List.getElem?_cons_succ] at hx0 hx1 hx2 hx3 hx4
  go_wp2_with (fail)
  clear hx0 hx1 hx2 hx3 hx4
  refine (refppdu_any r n w3 HSB.out).mono ?_
  rintro e w4 ⟨rfl, hB⟩
  have T0 := Lib.hid (HB.out.trans (hB.mono HB.out.size))
  have T1 := Lib.hid ((hB.block _ (lt_blk HG.out)).trans HG.out)
  clear hB HB HG
  have HB := T0
  have HG := T1
  clear T0 T1
  go_wp2_with (fail)
  refine (refanswer_any w4).mono ?_
  rintro e w5 ⟨rfl, hB⟩
  have T0 := Lib.hid (HB.out.trans (hB.mono HB.out.size))
  have T1 := Lib.hid ((hB.block _ (lt_blk HG.out)).trans HG.out)
  clear hB HB HG
  have HB := T0
  have HG := T1
  clear T0 T1
  obtain ⟨hp0, hp1⟩ := ppdu_le (r := r) (n := n)
  generalize ppduR r n = v at *
  go_wp2
  go_ret
  exact ⟨ret_int HE.out.symm, HB.out⟩
set_option maxRecDepth 100000 in
set_option maxHeartbeats 8000000 in
theorem refmost_any (r : Rt) (t : Int) (w : World) (hs : -9223372036854775808 ≤ r.s ∧ r.s ≤ 9223372036854775807) :
    Calls Tryd.prog 20 #[r.val, .int .i64 t] w fun e w' => e = .returned (.int .i64 (mostR r t)) ∧ Below w.heap.size w w' := by
  have HSB := Lib.hid hs
  clear hs
  have HB := Lib.hid ((Below.refl w.heap.size w).alloc (Nat.le_refl _) (.cells r.arr 27))
  have HG := Lib.hid (heap_alloc_last w (.cells r.arr 27))
  go_enter Tryd.func20, Tryd.ntmps20
  go_wp2_with (fail)
  generalize World.alloc w _ = w2 at *
  refine (refvalid_any r w2 HSB.out).mono ?_
  rintro e w3 ⟨rfl, hB⟩
  have T0 := Lib.hid (HB.out.trans (hB.mono HB.out.size))
  have T1 := Lib.hid ((hB.block _ (lt_blk HG.out)).trans HG.out)
  clear hB HB HG
  have HB := T0
  have HG := T1
  clear T0 T1
  cases hv : validR r
  · have HE := Lib.hid (most_no1 (t := t) hv)
    clear hv
    go_wp2
    go_ret
    exact ⟨ret_int HE.out.symm, HB.out⟩
  have HV := Lib.hid hv
  clear hv
  have hx0 := rt_cell (r := r) HG.out 0
  have hx1 := rt_cell (r := r) HG.out 1
  have hx2 := rt_cell (r := r) HG.out 2
  have hx3 := rt_cell (r := r) HG.out 3
  have hx4 := rt_cell (r := r) HG.out 4
  dsimp only [Rt.arr] at hx0 hx1 hx2 hx3 hx4
  simp only [List.getElem?_toArray, List.getElem?_cons_zero, List.getElem?_cons_succ] at hx0 hx1 hx2 hx3 hx4
  go_wp2_with (fail)
  clear hx0 hx1 hx2 hx3 hx4
  refine (refppdu_any r 0 w3 HSB.out).mono ?_
  rintro e w4 ⟨rfl, hB⟩
  have T0 := Lib.hid (HB.out.trans (hB.mono HB.out.size))
  have T1 := Lib.hid ((hB.block _ (lt_blk HG.out)).trans HG.out)
  clear hB HB HG
  have HB := T0
  have HG := T1
  clear T0 T1
  cases h0 : decide (t < ppduR r 0)
  rotate_left
  · have HE := Lib.hid (most_no2 (of_decide_eq_true h0))
    go_wp2
    go_ret
    exact ⟨ret_int HE.out.symm, HB.out⟩
  have HH := Lib.hid (halves_start (r := r) (t := t) (by simpa using h0))
  have H0 := Lib.hid (show ppduR r 0 ≤ t by simpa using h0)
  go_wp2_with (fail)
  clear h0
  go_loopw [5, 6] (fun lo hi wr => ∃ a b : Nat, lo = .int .i64 a ∧ hi = .int .i64 b ∧ Halves r t a b ∧ Below w.heap.size w wr ∧ wr.heap[w.heap.size]? = some (.cells r.arr 27)) (fun lo hi _ => (intOf hi).toNat - (intOf lo).toNat)
  case atStart => exact ⟨0, 1048576, rfl, rfl, HH.out, HB.out, HG.out⟩
  case round =>
    obtain ⟨a, b, rfl, rfl, hh, hbel, hblk⟩ := hrel
    clear HH HB HG
    have HH := Lib.hid hh
    have HB := Lib.hid hbel
    have HG := Lib.hid hblk
    clear hbel hblk
    have hb1 : (b : Int) ≤ 1048576 := hh.2.2.1
    have hab : a ≤ b := by have := hh.2.1; omega
    clear hh
    by_cases hlt : a < b
    · obtain ⟨q, hq⟩ := Int.eq_ofNat_of_zero_le (show 0 ≤ ((a : Int) + b + 1) / 2 by omega)
      have HQ := Lib.hid (show a < q ∧ q ≤ b by omega)
      have HQE := Lib.hid hq
      clear hq
      have hlt' : (a : Int) < (b : Int) := by omega
      have hx0 := rt_cell (r := r) HG.out 0
      have hx1 := rt_cell (r := r) HG.out 1
      have hx2 := rt_cell (r := r) HG.out 2
      have hx3 := rt_cell (r := r) HG.out 3
      have hx4 := rt_cell (r := r) HG.out 4
      dsimp only [Rt.arr] at hx0 hx1 hx2 hx3 hx4
      simp only [List.getElem?_toArray, List.getElem?_cons_zero, List.getElem?_cons_succ] at hx0 hx1 hx2 hx3 hx4
      go_wp2_with (fail)
      clear hx0 hx1 hx2 hx3 hx4 hlt'
      rw [HQE.out]
      refine (refppdu_any r q wr HSB.out).mono ?_
      rintro e w5 ⟨rfl, hB⟩
      have T0 := Lib.hid (HB.out.trans (hB.mono HB.out.size))
      have T1 := Lib.hid ((hB.block _ (lt_blk HG.out)).trans HG.out)
      clear hB HB HG
      have HB := T0
      have HG := T1
      clear T0 T1
      have hq1 : 1 ≤ q := by have := HQ.out.1; omega
      have hq2 : (q : Int) ≤ 1048576 := by have := HQ.out.2; omega
      cases hc : decide (ppduR r q ≤ t)
      · have HN := Lib.hid (halves_down HH.out (mid := (q : Int)) (by have := HQ.out.1; omega) (by have := HQ.out.2; omega) (by simpa using hc))
        have HJ := Lib.hid (show (q : Int) - 1 = ((q - 1 : Nat) : Int) by omega)
        rw [HJ.out] at HN
        go_wp2
        go_roundw
        case rel => exact ⟨a, q - 1, rfl, by go_num, HN.out, HB.out, HG.out⟩
        case measure => simp [intOf]; have := HQ.out; omega
      · have HN := Lib.hid (halves_up HH.out (mid := (q : Int)) (by have := HQ.out.1; omega) (by have := HQ.out.2; omega) (by simpa using hc))
        go_wp2
        go_roundw
        case rel => exact ⟨q, b, rfl, rfl, HN.out, HB.out, HG.out⟩
        case measure => simp [intOf]; have := HQ.out; omega
    · have HE := Lib.hid (most_eq (halves_end HV.out H0.out HH.out (by omega)))
      go_wp2
      go_ret
      exact ⟨ret_int HE.out, HB.out⟩
end Go.Proofs.YtpjmpgienhdccaaDoor
