/-
  CONTRACTS of package air: mayGo, Ppdu, Answer, Total, Most: each in one, of whatever rate, length, time.
-/
import Derived.Test.YtlkoleannlpflaaDoorRateD
import Derived.Test.YtlkoleannlpflaaDoorAirN
import Derived.Deep.RegionHeld3
namespace Go.Proofs.YtlkoleannlpflaaDoor
open Go.ChangeShapes Go.WideShapes Go.ChangeAt Go.RowKit Go.Deep
set_option linter.unusedVariables false
set_option linter.unusedSimpArgs false

set_option maxRecDepth 100000 in
set_option maxHeartbeats 8000000 in
theorem may_any (r : Rt) (n : Int) (w : World)  :
    Calls Tryd.prog 33 #[r.val, .int .i64 n] w fun e w' => e = .returned (.bool (okA r n)) ∧ Below w.heap.size w w' := by
  have HB := Lib.hid ((Below.refl w.heap.size w).alloc (Nat.le_refl _) (.cells r.arr 23))
  have HG := Lib.hid (heap_alloc_last w (.cells r.arr 23))
  go_enter Tryd.func33, Tryd.ntmps33
  go_wp2_with (fail)
  generalize World.alloc w _ = w2 at *
  refine (valid_any r w2).mono ?_
  rintro e w3 ⟨rfl, hB⟩
  have T0 := Lib.hid (HB.out.trans (hB.mono HB.out.size))
  have T1 := Lib.hid ((hB.block _ (lt_blk HG.out)).trans HG.out)
  clear hB HB HG
  have HB := T0
  have HG := T1
  clear T0 T1
  cases hv : validR r
  · have HE := Lib.hid (show false = okA r n by unfold okA; rw [hv]; rfl)
    go_wp2
    go_ret
    exact ⟨ret_bool HE.out, HB.out⟩
  cases h1 : decide (0 ≤ n)
  · have HE := Lib.hid (show false = okA r n by unfold okA; rw [hv, h1]; rfl)
    go_wp2
    go_ret
    exact ⟨ret_bool HE.out, HB.out⟩
  cases h2 : decide (n ≤ 1048576)
  · have HE := Lib.hid (show false = okA r n by unfold okA; rw [hv, h1, h2]; rfl)
    go_wp2
    go_ret
    exact ⟨ret_bool HE.out, HB.out⟩
  have HE := Lib.hid (show true = okA r n by unfold okA; rw [hv, h1, h2]; rfl)
  go_wp2
  go_ret
  exact ⟨ret_bool HE.out, HB.out⟩
set_option maxRecDepth 100000 in
set_option maxHeartbeats 8000000 in
theorem ppdu_any (r : Rt) (n : Int) (w : World) (hT : Tab w) :
    Calls Tryd.prog 23 #[r.val, .int .i64 n] w fun e w' => e = .returned (.int .i64 (ppduR r n)) ∧ Below w.heap.size w w' := by
  have HT := Lib.hid hT
  clear hT
  have HB := Lib.hid ((Below.refl w.heap.size w).alloc (Nat.le_refl _) (.cells r.arr 23))
  have HG := Lib.hid (heap_alloc_last w (.cells r.arr 23))
  go_enter Tryd.func23, Tryd.ntmps23
  go_wp2_with (fail)
  generalize World.alloc w _ = w2 at *
  refine (may_any r n w2).mono ?_
  rintro e w3 ⟨rfl, hB⟩
  have T0 := Lib.hid (HB.out.trans (hB.mono HB.out.size))
  have T1 := Lib.hid ((hB.block _ (lt_blk HG.out)).trans HG.out)
  clear hB HB HG
  have HB := T0
  have HG := T1
  clear T0 T1
  cases hv : okA r n
  · have HE := Lib.hid (ppdu_no hv)
    clear hv
    go_wp2
    go_ret
    exact ⟨ret_int HE.out.symm, HB.out⟩
  have HP := Lib.hid (ppdu_of hv)
  have HV := Lib.hid (okA_iff.1 hv)
  clear hv
  have HL := Lib.hid (least_of HV.out.1)
  have HM := Lib.hid (most_of HV.out.1)
  have HS := Lib.hid (prod_in (a := symsA (bitsR r) n) (b := symR r) (A := 349527) (B := 160) (by have := syms_pos (b := bitsR r) (n := n) (by have := HL.out.1; omega) HV.out.2.1; omega) (syms_le HL.out.1 HV.out.2.1 HV.out.2.2) (by have := HL.out.2.1; omega) HM.out.2.1)
  have hx0 := rt_cell (r := r) HG.out 0
  have hx1 := rt_cell (r := r) HG.out 1
  have hx2 := rt_cell (r := r) HG.out 2
  have hx3 := rt_cell (r := r) HG.out 3
  have hx4 := rt_cell (r := r) HG.out 4
  dsimp only [Rt.arr] at hx0 hx1 hx2 hx3 hx4
  simp only [List.getElem?_toArray, List.getElem?_cons_zero, List.getElem?_cons_succ] at hx0 hx1 hx2 hx3 hx4
  go_wp2_with (fail)
  clear hx0 hx1 hx2 hx3 hx4
  refine (bits_any r w3 (HT.out.below HB.out)).mono ?_
  rintro e w4 ⟨rfl, hB⟩
  have T0 := Lib.hid (HB.out.trans (hB.mono HB.out.size))
  have T1 := Lib.hid ((hB.block _ (lt_blk HG.out)).trans HG.out)
  clear hB HB HG
  have HB := T0
  have HG := T1
  clear T0 T1
  obtain ⟨h24, h36, h200⟩ := HL.out
  obtain ⟨hb1, hb2, hb3⟩ := HM.out
  obtain ⟨-, hn0, hn1⟩ := HV.out
  have HSY := Lib.hid (show (22 + 8 * n + bitsR r - 1) / bitsR r = symsA (bitsR r) n from rfl)
  generalize symsA (bitsR r) n = q at *
  generalize bitsR r = b at *
  go_wp2_with (fail)
  rw [HSY.out]
  have hwm : IntKind.i64.wrap (q * symR r) = q * symR r := IntWalk.i64_in _ ⟨by have := HS.out; omega, by have := HS.out; omega⟩
  have hwa : IntKind.i64.wrap (preR r + q * symR r) = preR r + q * symR r := IntWalk.i64_in _ ⟨by have := HS.out; omega, by have := HS.out; omega⟩
  clear h24 h36 h200 hb1 hb2 hb3 hn0 hn1
  have HG' := Lib.hid (fun (w' : World) (hB : Below w4.heap.size w4 w') => (hB.block _ (lt_blk HG.out)).trans HG.out)
  refine wp_region_held_drew (S := fun w' => Below w4.heap.size w4 w') (by kernel_rfl) (Below.refl _ _).drew (fun hHeld => ?_)
  generalize World.drew w4 = w5 at *
  have HZ5 := Lib.hid hHeld
  refine wpAnyH_take (i := 0) (v := .agg r.arr) rfl (by kernel_rfl) (by kernel_rfl) (by kernel_rfl) (fun _ _ _ h => h) (yieldsIf_load_mid (by rfl) 23 (.tmp 2) rfl w.heap.size (0) rfl (r.arr).toList _ (fun w' hw' => block_range (HG'.out w' hw')) Tryd.underlying23 rfl sizeRate) (by assumption) ?_
  try simp only [Act.put, List.getElem_toArray, List.getElem_cons_zero, List.getElem_cons_succ, List.setIfInBounds_toArray, List.set_cons_zero, List.set_cons_succ]
  refine wpAnyH_take (i := 2) (v := ?_) rfl (by kernel_rfl) (by kernel_rfl) (by kernel_rfl) (fun _ _ _ h => h) (Or.inl ⟨by rfl, ?_⟩) (by assumption) ?_
  rotate_left
  · intro w hSw
    clear hSw
    go_simp
    try with_reducible rfl
  try simp only [Act.put, List.getElem_toArray, List.getElem_cons_zero, List.getElem_cons_succ, List.setIfInBounds_toArray, List.set_cons_zero, List.set_cons_succ]
  refine wpAnyH_take (i := 3) (v := .agg r.arr) rfl (by kernel_rfl) (by kernel_rfl) (by kernel_rfl) (fun _ _ _ h => h) (yieldsIf_load_mid (by rfl) 23 (.tmp 2) rfl w.heap.size (0) rfl (r.arr).toList _ (fun w' hw' => block_range (HG'.out w' hw')) Tryd.underlying23 rfl sizeRate) (by assumption) ?_
  try simp only [Act.put, List.getElem_toArray, List.getElem_cons_zero, List.getElem_cons_succ, List.setIfInBounds_toArray, List.set_cons_zero, List.set_cons_succ]
  refine wpAnyH_ready (rs := [1]) (by kernel_rfl) (by simp) ?_
  refine AllReadyH.cons rfl (fun K hK => ?_) AllReadyH.nil
  go_simp
  refine (pre_any r w5).mono ?_
  rintro e' w6 ⟨rfl, hb⟩
  have HZ6 := Lib.hid (HZ5.out.trans (hb.mono HZ5.out.size))
  clear hb hHeld HZ5
  refine hK.out _ _ HZ6.out (fun hHeld => ?_)
  clear hK K
  try simp only [Act.put, List.getElem_toArray, List.getElem_cons_zero, List.getElem_cons_succ, List.setIfInBounds_toArray, List.set_cons_zero, List.set_cons_succ]
  refine wpAnyH_ready (rs := [4]) (by kernel_rfl) (by simp) ?_
  refine AllReadyH.cons rfl (fun K hK => ?_) AllReadyH.nil
  go_simp
  refine (sym_any r w6).mono ?_
  rintro e' w7 ⟨rfl, hb⟩
  have HZ7 := Lib.hid (HZ6.out.trans (hb.mono HZ6.out.size))
  clear hb hHeld HZ6
  refine hK.out _ _ HZ7.out (fun hHeld => ?_)
  clear hK K
  try simp only [Act.put, List.getElem_toArray, List.getElem_cons_zero, List.getElem_cons_succ, List.setIfInBounds_toArray, List.set_cons_zero, List.set_cons_succ]
  refine wpAnyH_take (i := 5) (v := ?_) rfl (by kernel_rfl) (by kernel_rfl) (by kernel_rfl) (fun _ _ _ h => h) (Or.inl ⟨by rfl, ?_⟩) (by assumption) ?_
  rotate_left
  · intro w hSw
    clear hSw
    go_simp
    try with_reducible rfl
  try simp only [Act.put, List.getElem_toArray, List.getElem_cons_zero, List.getElem_cons_succ, List.setIfInBounds_toArray, List.set_cons_zero, List.set_cons_succ]
  refine wpAnyH_take (i := 6) (v := ?_) rfl (by kernel_rfl) (by kernel_rfl) (by kernel_rfl) (fun _ _ _ h => h) (Or.inl ⟨by rfl, ?_⟩) (by assumption) ?_
  rotate_left
  · intro w hSw
    clear hSw
    go_simp
    try with_reducible rfl
  try simp only [Act.put, List.getElem_toArray, List.getElem_cons_zero, List.getElem_cons_succ, List.setIfInBounds_toArray, List.set_cons_zero, List.set_cons_succ]
  refine wpAnyH_take (i := 7) (v := ?_) rfl (by kernel_rfl) (by kernel_rfl) (by kernel_rfl) (fun _ _ _ h => h) (Or.inl ⟨by rfl, ?_⟩) (by assumption) ?_
  rotate_left
  · intro w hSw
    clear hSw
    go_simp
    try with_reducible rfl
  try simp only [Act.put, List.getElem_toArray, List.getElem_cons_zero, List.getElem_cons_succ, List.setIfInBounds_toArray, List.set_cons_zero, List.set_cons_succ]
  refine wpAnyH_done (by kernel_rfl) ?_ _
  try simp only [Act.put, List.getElem_toArray, List.getElem_cons_zero, List.getElem_cons_succ, List.setIfInBounds_toArray, List.set_cons_zero, List.set_cons_succ]
  go_wp2
  go_ret
  exact ⟨ret_int HP.out.symm, HB.out.trans (HZ7.out.mono HB.out.size)⟩
end Go.Proofs.YtlkoleannlpflaaDoor
