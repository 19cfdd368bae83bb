/-
  CONTRACT of the reference's ReadDel.
-/
import Derived.Test.YtjgingfcfmpfaaaDoorActF
import Derived.Test.YtjgingfcfmpfaaaDoorActK
namespace Go.Proofs.YtjgingfcfmpfaaaDoor
open Go.ChangeShapes Go.WideShapes Go.ChangeAt Go.RowKit
set_option linter.unusedVariables false
set_option linter.unusedSimpArgs false

theorem lt_of_block {w : World} {g : Nat} {o : Obj} (h : w.heap[g]? = some o) : g < w.heap.size := by
  by_cases hp : g < w.heap.size
  · exact hp
  · rw [Array.getElem?_eq_none (Nat.le_of_not_lt hp)] at h; cases h
theorem sameB_comm (xs ys : List Int) : sameB xs ys = sameB ys xs := by unfold sameB; rw [Bool.eq_iff_iff]; simp only [decide_eq_true_eq]; exact eq_comm
set_option maxRecDepth 100000 in
set_option maxHeartbeats 8000000 in
theorem refReadDel_beg (A : Option Addr) (n c : Nat) (xs : List Int) (w : World) (h : RowB .u8 w A n xs) (hb : begA xs n 30 [2] ≠ 0) :
    Calls Tryd.prog 15 #[.slice A n c] w fun e w' => e = .returned (.tuple #[(outDel xs n).val, .int .i64 (rdDel xs n : Nat)]) ∧ Below w.heap.size w w' := by
  have HEQ := Lib.hid (rdDel_beg hb)
  have HB := Lib.hid ((Below.refl w.heap.size w).alloc (Nat.le_refl _) (.cells d0.cells 27))
  have HC := Lib.hid (session_any A n c xs 2 2 30 [2] _ (h.below HB.out) between22)
  have hne : (((begA xs n 30 [2] : Nat) : Int) != 0) = true := by simp; omega
  generalize begA xs n 30 [2] = m at *
  have HG := Lib.hid (heap_alloc_last w (.cells d0.cells 27))
  clear h hb
  go_enter Tryd.func15, Tryd.ntmps15
  go_wp2_with (fail)
  refine HC.out.mono ?_
  rintro e w2 ⟨rfl, rfl⟩
  generalize w.alloc (.cells d0.cells 27) = w1 at *
  go_wp2_with (refine wpList_store_row rfl 27 (.tmp 2) (.tmp 13) rfl w.heap.size d0.cells rfl rfl 27 d0.cells HG.out sizeDel rfl (Dlf.oneCell _) ?_; rw [setRow_same _ _ _ _ _ HG.out])
  refine bodyPost_ret (v := .tuple #[.agg d0.cells, .int .i64 (m : Nat)]) (results_cell_slot (p := 2) (q := 3) Tryd.results15 _ _ w.heap.size _ d0.cells _ _ rfl HG.out Tryd.underlying27 rfl sizeDel) rfl ⟨by rw [HEQ.out.1, HEQ.out.2], HB.out⟩
set_option maxRecDepth 100000 in
set_option maxHeartbeats 8000000 in
theorem refReadDel_fit (A : Option Addr) (n c : Nat) (xs : List Int) (w : World) (h : RowB .u8 w A n xs) (hnc : n ≤ c) (hb : begA xs n 30 [2] = 0) :
    Calls Tryd.prog 15 #[.slice A n c] w fun e w' => e = .returned (.tuple #[(outDel xs n).val, .int .i64 (rdDel xs n : Nat)]) ∧ Below w.heap.size w w' := by
  have hq := begA_fine hb
  have hn1 : n = 30 := by omega
  subst hn1
  have HB := Lib.hid ((Below.refl w.heap.size w).alloc (Nat.le_refl _) (.cells d0.cells 27))
  have HR := Lib.hid h
  have HC := Lib.hid (session_any A 30 c xs 2 2 30 [2] _ (h.below HB.out) between22)
  rw [hb] at HC
  have HG := Lib.hid (heap_alloc_last w (.cells d0.cells 27))
  have HSZ := Lib.hid (show w.heap.size < (w.alloc (.cells d0.cells 27)).heap.size by simp)
  have HW := Lib.hid (show ∀ i, i < 30 → 0 ≤ xs.getD i 0 ∧ xs.getD i 0 ≤ 255 from fun i hi => h.wf8 i hi)
  obtain ⟨b, off, rfl, -⟩ := HR.out.cells (by omega)
  have hnc' : (30 : Int) ≤ (c : Int) := by omega
  obtain ⟨t0, t1⟩ := numAt_wf HR.out 26 (by omega)
  obtain ⟨r0, r1⟩ := numAt_wf HR.out 28 (by omega)
  have HD := Lib.hid (show decDel xs = ⟨six xs 4, six xs 10, six xs 16, bits .and .i64 (numAt xs 26) 2048 != 0, numAt xs 26 / 4096, numAt xs 28⟩ from rfl)
  have HMEM := Lib.hid (fun hok => encDel_mem (q := ⟨six xs 4, six xs 10, six xs 16, bits .and .i64 (numAt xs 26) 2048 != 0, numAt xs 26 / 4096, numAt xs 28⟩) (six_wf 4 (by omega) HW.out) (six_wf 10 (by omega) HW.out) (six_wf 16 (by omega) HW.out) hok)
  generalize hv26 : numAt xs 26 = T at *
  generalize hv28 : numAt xs 28 = R at *
  have HV26 := Lib.hid hv26
  have HV28 := Lib.hid hv28
  clear hv26 hv28
  have x1 : IntKind.i64.wrap (T.tdiv 4096) = T / 4096 := by rw [Int.tdiv_eq_ediv_of_nonneg (by omega)]; exact IntWalk.i64_in _ ⟨by omega, by omega⟩
  have d4 : (c = 4) = False := by simp; omega
  have d10 : (c = 10) = False := by simp; omega
  have d16 : (c = 16) = False := by simp; omega
  have d26 : (c = 26) = False := by simp; omega
  have d28 : (c = 28) = False := by simp; omega
  clear h hq
  go_enter Tryd.func15, Tryd.ntmps15
  go_wp2_with (fail)
  refine HC.out.mono ?_
  rintro e w2 ⟨rfl, rfl⟩
  generalize w.alloc (.cells d0.cells 27) = w1 at *
  clear HC
  go_wp2_with (fail)
  refine (num_off 26 b off 30 c xs w1 (HR.out.below HB.out) (by omega)).mono ?_
  rintro e w3 ⟨rfl, hB⟩
  rw [HV26.out]
  have T0 := Lib.hid (HB.out.trans (hB.mono HB.out.size))
  have T1 := Lib.hid ((hB.block _ HSZ.out).trans HG.out)
  have T2 := Lib.hid (Nat.lt_of_lt_of_le HSZ.out hB.size)
  clear hB
  clear HB HG HSZ
  have HB := T0
  have HG := T1
  have HSZ := T2
  clear T0 T1 T2
  have HS4 := Lib.hid (show ∀ w' : World, Below w3.heap.size w3 w' → Calls Tryd.prog 34 #[.slice (some ⟨b, off + 4, none⟩) (30 - 4) (c - 4)] w' fun e w'' => e = .returned (six xs 4).val ∧ Below w'.heap.size w' w'' from
    fun w' hb => six_off 4 b off 30 c xs w' (HR.out.below (HB.out.trans (hb.mono HB.out.size))) (by omega))
  have HS10 := Lib.hid (show ∀ w' : World, Below w3.heap.size w3 w' → Calls Tryd.prog 34 #[.slice (some ⟨b, off + 10, none⟩) (30 - 10) (c - 10)] w' fun e w'' => e = .returned (six xs 10).val ∧ Below w'.heap.size w' w'' from
    fun w' hb => six_off 10 b off 30 c xs w' (HR.out.below (HB.out.trans (hb.mono HB.out.size))) (by omega))
  have HS16 := Lib.hid (show ∀ w' : World, Below w3.heap.size w3 w' → Calls Tryd.prog 34 #[.slice (some ⟨b, off + 16, none⟩) (30 - 16) (c - 16)] w' fun e w'' => e = .returned (six xs 16).val ∧ Below w'.heap.size w' w'' from
    fun w' hb => six_off 16 b off 30 c xs w' (HR.out.below (HB.out.trans (hb.mono HB.out.size))) (by omega))
  have HN28 := Lib.hid (show ∀ w' : World, Below w3.heap.size w3 w' → Calls Tryd.prog 35 #[.slice (some ⟨b, off + 28, none⟩) (30 - 28) (c - 28)] w' fun e w'' => e = .returned (.int .i64 R) ∧ Below w'.heap.size w' w'' from
    fun w' hb => by rw [← HV28.out]; exact num_off 28 b off 30 c xs w' (HR.out.below (HB.out.trans (hb.mono HB.out.size))) (by omega))
  go_wp2
  rename_i h9 K9 a9
  have KEY : ∀ (w5 : World) (h4 : Nat), Hid (Below w3.heap.size w3 w5) → Hid (w3.heap.size ≤ h4) → Hid (w5.heap[h4]? = some (.cells (Dlf.mk (six xs 4) (six xs 10) (six xs 16) (bits .and .i64 T 2048 != 0) (T / 4096) R).cells 27 (0, 0))) → Exit.then K9 (bodyPost Tryd.prog Tryd.f15 fun e w' => e = .returned (.tuple #[(outDel xs 30).val, .int .i64 (rdDel xs 30 : Nat)]) ∧ Below w.heap.size w w') .normal { tmps := #[.slice (some ⟨b, off, none⟩) 30 c, undef, .pointer (some ⟨w.heap.size, 0, none⟩), .int .i64 0, .int .i64 0, .int .i64 T, .pointer (some ⟨h4, 0, none⟩), undef, undef, .slice (some ⟨b, off, none⟩) 30 c, .int .i64 0, .int .i64 0, .bool false, undef, undef, .slice (some ⟨b, off, none⟩) 30 c, .slice (some ⟨b, off + 26, none⟩) (30 - 26) (c - 26), .int .i64 T, .slice (some ⟨b, off, none⟩) 30 c, .slice (some ⟨b, off + 4, none⟩) (30 - 4) (c - 4), .agg (six xs 4).cells, .slice (some ⟨b, off, none⟩) 30 c, .slice (some ⟨b, off + 10, none⟩) (30 - 10) (c - 10), .agg (six xs 10).cells, .slice (some ⟨b, off, none⟩) 30 c, .slice (some ⟨b, off + 16, none⟩) (30 - 16) (c - 16), .agg (six xs 16).cells, .int .i64 T, .int .i64 (T / 4096), .int .i64 T, .int .i64 (bits .and .i64 T 2048), .bool (bits .and .i64 T 2048 != 0), .slice (some ⟨b, off, none⟩) 30 c, .slice (some ⟨b, off + 28, none⟩) (30 - 28) (c - 28), .int .i64 R, .agg (Dlf.mk (six xs 4) (six xs 10) (six xs 16) (bits .and .i64 T 2048 != 0) (T / 4096) R).cells, undef, undef, undef, undef, undef, undef, undef, undef, undef, undef, undef, undef, undef, undef, undef], defers := [] } w5 := by
    intro w5 bF HB5 HH5 HF
    have HLh := Lib.hid (Nat.lt_of_lt_of_le HSZ.out HH5.out)
    have T0 := Lib.hid (HB.out.trans (HB5.out.mono HB.out.size))
    have T1 := Lib.hid ((HB5.out.block _ HSZ.out).trans HG.out)
    clear HB5 HH5
    clear HB HG
    have HB := T0
    have HG := T1
    clear T0 T1
    go_wp2_with (refine wpList_load_row rfl 27 (.tmp 6) rfl bF rfl 27 (Dlf.mk (six xs 4) (six xs 10) (six xs 16) (bits .and .i64 T 2048 != 0) (T / 4096) R).cells (0, 0) _ HF.out Tryd.underlying27 rfl sizeDel ?_)
    cases hok : okDel (Dlf.mk (six xs 4) (six xs 10) (six xs 16) (bits .and .i64 T 2048 != 0) (T / 4096) R)
    · refine (refDel_no (Dlf.mk (six xs 4) (six xs 10) (six xs 16) (bits .and .i64 T 2048 != 0) (T / 4096) R) w5 hok).mono ?_
      rintro e w8 ⟨rfl, hB⟩
      have T0 := Lib.hid (HB.out.trans (hB.mono HB.out.size))
      have T1 := Lib.hid ((hB.block _ (lt_of_block HG.out)).trans HG.out)
      have T2 := Lib.hid ((hB.block _ (lt_of_block HF.out)).trans HF.out)
      clear hB
      clear HB HG HF
      have HB := T0
      have HG := T1
      have HF := T2
      clear T0 T1 T2
      have HEQ := Lib.hid (rdDel_bad hb (by rw [HD.out, hok]; simp))
      go_wp2_with (refine wpList_store_row rfl 27 (.tmp 2) (.tmp 49) rfl w.heap.size d0.cells rfl rfl 27 d0.cells HG.out sizeDel rfl (Dlf.oneCell _) ?_; rw [setRow_same _ _ _ _ _ HG.out])
      refine bodyPost_ret (v := .tuple #[.agg d0.cells, .int .i64 102]) (results_cell_slot (p := 2) (q := 3) Tryd.results15 _ _ w.heap.size _ d0.cells _ _ rfl HG.out Tryd.underlying27 rfl sizeDel) rfl ⟨by rw [HEQ.out.1, HEQ.out.2]; rfl, HB.out⟩
    · refine (refDel_yes (Dlf.mk (six xs 4) (six xs 10) (six xs 16) (bits .and .i64 T 2048 != 0) (T / 4096) R) w5 hok).mono ?_
      rintro e w8 ⟨g, cap, rfl, hO, hB⟩
      have HY := Lib.hid (hO.row8 (all_wf (encDel_len _) (HMEM.out hok)))
      clear hO
      have T0 := Lib.hid (HB.out.trans (hB.mono HB.out.size))
      have T1 := Lib.hid ((hB.block _ (lt_of_block HG.out)).trans HG.out)
      have T2 := Lib.hid ((hB.block _ (lt_of_block HF.out)).trans HF.out)
      clear hB
      clear HB HG HF
      have HB := T0
      have HG := T1
      have HF := T2
      clear T0 T1 T2
      go_wp2_with (fail)
      refine (same_any _ _ 30 c 30 cap xs (encDel (Dlf.mk (six xs 4) (six xs 10) (six xs 16) (bits .and .i64 T 2048 != 0) (T / 4096) R)) w8 (HR.out.below HB.out) HY.out).mono ?_
      rintro e w7 ⟨rfl, m, rfl⟩
      have T0 := Lib.hid (below_drewN HB.out m)
      have T1 := Lib.hid (show (w8.drewN m).heap[w.heap.size]? = some (.cells d0.cells 27 (0, 0)) from HG.out)
      have T2 := Lib.hid (show (w8.drewN m).heap[bF]? = some (.cells (Dlf.mk (six xs 4) (six xs 10) (six xs 16) (bits .and .i64 T 2048 != 0) (T / 4096) R).cells 27 (0, 0)) from HF.out)
      clear HB HG HF
      have HB := T0
      have HG := T1
      have HF := T2
      clear T0 T1 T2
      generalize w8.drewN m = w8 at *
      cases hsm : sameB xs (encDel (Dlf.mk (six xs 4) (six xs 10) (six xs 16) (bits .and .i64 T 2048 != 0) (T / 4096) R))
      · have HEQ := Lib.hid (rdDel_bad hb (by rw [HD.out, hok, sameB_comm, hsm]; simp))
        go_wp2_with (refine wpList_store_row rfl 27 (.tmp 2) (.tmp 49) rfl w.heap.size d0.cells rfl rfl 27 d0.cells HG.out sizeDel rfl (Dlf.oneCell _) ?_; rw [setRow_same _ _ _ _ _ HG.out])
        refine bodyPost_ret (v := .tuple #[.agg d0.cells, .int .i64 102]) (results_cell_slot (p := 2) (q := 3) Tryd.results15 _ _ w.heap.size _ d0.cells _ _ rfl HG.out Tryd.underlying27 rfl sizeDel) rfl ⟨by rw [HEQ.out.1, HEQ.out.2]; rfl, HB.out⟩
      · have HEQ := Lib.hid (rdDel_good hb (by rw [HD.out, hok, sameB_comm, hsm]; simp))
        go_wp2_with (first | (refine wpList_load_row rfl 27 (.tmp 6) rfl bF rfl 27 (Dlf.mk (six xs 4) (six xs 10) (six xs 16) (bits .and .i64 T 2048 != 0) (T / 4096) R).cells (0, 0) _ HF.out Tryd.underlying27 rfl sizeDel ?_) | (refine wpList_store_row rfl 27 (.tmp 2) (.tmp 50) rfl w.heap.size (Dlf.mk (six xs 4) (six xs 10) (six xs 16) (bits .and .i64 T 2048 != 0) (T / 4096) R).cells rfl rfl 27 d0.cells HG.out sizeDel rfl (Dlf.oneCell _) ?_))
        have HGz := Lib.hid (setRow_heap w8 w.heap.size d0.cells (Dlf.mk (six xs 4) (six xs 10) (six xs 16) (bits .and .i64 T 2048 != 0) (T / 4096) R).cells 27 (0, 0) HG.out)
        refine bodyPost_ret (v := .tuple #[.agg (Dlf.mk (six xs 4) (six xs 10) (six xs 16) (bits .and .i64 T 2048 != 0) (T / 4096) R).cells, .int .i64 0]) (results_cell_slot (p := 2) (q := 3) Tryd.results15 _ _ w.heap.size _ (Dlf.mk (six xs 4) (six xs 10) (six xs 16) (bits .and .i64 T 2048 != 0) (T / 4096) R).cells _ _ rfl HGz.out Tryd.underlying27 rfl sizeDel) rfl ⟨by rw [HEQ.out.1, HEQ.out.2, HD.out]; rfl, below_setRow HB.out (Nat.le_refl _) _⟩
  refine wp_region_held_drew (S := fun w' => Below w3.heap.size w3 w') (by kernel_rfl) (Below.refl _ _).drew (fun hHeld => ?_)
  clear HG HB
  generalize World.drew w3 = w2 at *
  have HB2 := Lib.hid hHeld
  refine wpAnyH_take (i := 0) (v := ?_) rfl (by kernel_rfl) (by kernel_rfl) (by kernel_rfl) (fun _ _ _ h => h) (Or.inl ⟨by rfl, ?_⟩) (by assumption) ?_
  rotate_left
  · intro w hSw
    clear hSw
    go_simp
    try with_reducible rfl
  try simp only [Act.put, List.getElem_toArray, List.getElem_cons_zero, List.getElem_cons_succ, List.setIfInBounds_toArray, List.set_cons_zero, List.set_cons_succ]
  refine wpAnyH_take (i := 1) (v := ?_) rfl (by kernel_rfl) (by kernel_rfl) (by kernel_rfl) (fun _ _ _ h => h) (Or.inl ⟨by rfl, ?_⟩) (by assumption) ?_
  rotate_left
  · intro w hSw
    clear hSw
    go_simp
    try with_reducible rfl
  try simp only [Act.put, List.getElem_toArray, List.getElem_cons_zero, List.getElem_cons_succ, List.setIfInBounds_toArray, List.set_cons_zero, List.set_cons_succ]
  refine wpAnyH_take (i := 3) (v := ?_) rfl (by kernel_rfl) (by kernel_rfl) (by kernel_rfl) (fun _ _ _ h => h) (Or.inl ⟨by rfl, ?_⟩) (by assumption) ?_
  rotate_left
  · intro w hSw
    clear hSw
    go_simp
    try with_reducible rfl
  try simp only [Act.put, List.getElem_toArray, List.getElem_cons_zero, List.getElem_cons_succ, List.setIfInBounds_toArray, List.set_cons_zero, List.set_cons_succ]
  refine wpAnyH_take (i := 4) (v := ?_) rfl (by kernel_rfl) (by kernel_rfl) (by kernel_rfl) (fun _ _ _ h => h) (Or.inl ⟨by rfl, ?_⟩) (by assumption) ?_
  rotate_left
  · intro w hSw
    clear hSw
    go_simp
    try with_reducible rfl
  try simp only [Act.put, List.getElem_toArray, List.getElem_cons_zero, List.getElem_cons_succ, List.setIfInBounds_toArray, List.set_cons_zero, List.set_cons_succ]
  refine wpAnyH_take (i := 6) (v := ?_) rfl (by kernel_rfl) (by kernel_rfl) (by kernel_rfl) (fun _ _ _ h => h) (Or.inl ⟨by rfl, ?_⟩) (by assumption) ?_
  rotate_left
  · intro w hSw
    clear hSw
    go_simp
    try with_reducible rfl
  try simp only [Act.put, List.getElem_toArray, List.getElem_cons_zero, List.getElem_cons_succ, List.setIfInBounds_toArray, List.set_cons_zero, List.set_cons_succ]
  refine wpAnyH_take (i := 7) (v := ?_) rfl (by kernel_rfl) (by kernel_rfl) (by kernel_rfl) (fun _ _ _ h => h) (Or.inl ⟨by rfl, ?_⟩) (by assumption) ?_
  rotate_left
  · intro w hSw
    clear hSw
    go_simp
    try with_reducible rfl
  try simp only [Act.put, List.getElem_toArray, List.getElem_cons_zero, List.getElem_cons_succ, List.setIfInBounds_toArray, List.set_cons_zero, List.set_cons_succ]
  refine wpAnyH_take (i := 9) (v := ?_) rfl (by kernel_rfl) (by kernel_rfl) (by kernel_rfl) (fun _ _ _ h => h) (Or.inl ⟨by rfl, ?_⟩) (by assumption) ?_
  rotate_left
  · intro w hSw
    clear hSw
    go_simp
    try with_reducible rfl
  try simp only [Act.put, List.getElem_toArray, List.getElem_cons_zero, List.getElem_cons_succ, List.setIfInBounds_toArray, List.set_cons_zero, List.set_cons_succ]
  refine wpAnyH_take (i := 10) (v := ?_) rfl (by kernel_rfl) (by kernel_rfl) (by kernel_rfl) (fun _ _ _ h => h) (Or.inl ⟨by rfl, ?_⟩) (by assumption) ?_
  rotate_left
  · intro w hSw
    clear hSw
    go_simp
    try with_reducible rfl
  try simp only [Act.put, List.getElem_toArray, List.getElem_cons_zero, List.getElem_cons_succ, List.setIfInBounds_toArray, List.set_cons_zero, List.set_cons_succ]
  refine wpAnyH_take (i := 11) (v := ?_) rfl (by kernel_rfl) (by kernel_rfl) (by kernel_rfl) (fun _ _ _ h => h) (Or.inl ⟨by rfl, ?_⟩) (by assumption) ?_
  rotate_left
  · intro w hSw
    clear hSw
    go_simp
    try with_reducible rfl
  try simp only [Act.put, List.getElem_toArray, List.getElem_cons_zero, List.getElem_cons_succ, List.setIfInBounds_toArray, List.set_cons_zero, List.set_cons_succ]
  refine wpAnyH_take (i := 12) (v := ?_) rfl (by kernel_rfl) (by kernel_rfl) (by kernel_rfl) (fun _ _ _ h => h) (Or.inl ⟨by rfl, ?_⟩) (by assumption) ?_
  rotate_left
  · intro w hSw
    clear hSw
    go_simp
    try with_reducible rfl
  try simp only [Act.put, List.getElem_toArray, List.getElem_cons_zero, List.getElem_cons_succ, List.setIfInBounds_toArray, List.set_cons_zero, List.set_cons_succ]
  refine wpAnyH_take (i := 13) (v := ?_) rfl (by kernel_rfl) (by kernel_rfl) (by kernel_rfl) (fun _ _ _ h => h) (Or.inl ⟨by rfl, ?_⟩) (by assumption) ?_
  rotate_left
  · intro w hSw
    clear hSw
    go_simp
    try with_reducible rfl
  try simp only [Act.put, List.getElem_toArray, List.getElem_cons_zero, List.getElem_cons_succ, List.setIfInBounds_toArray, List.set_cons_zero, List.set_cons_succ]
  refine wpAnyH_take (i := 14) (v := ?_) rfl (by kernel_rfl) (by kernel_rfl) (by kernel_rfl) (fun _ _ _ h => h) (Or.inl ⟨by rfl, ?_⟩) (by assumption) ?_
  rotate_left
  · intro w hSw
    clear hSw
    go_simp
    try with_reducible rfl
  try simp only [Act.put, List.getElem_toArray, List.getElem_cons_zero, List.getElem_cons_succ, List.setIfInBounds_toArray, List.set_cons_zero, List.set_cons_succ]
  refine wpAnyH_take (i := 15) (v := ?_) rfl (by kernel_rfl) (by kernel_rfl) (by kernel_rfl) (fun _ _ _ h => h) (Or.inl ⟨by rfl, ?_⟩) (by assumption) ?_
  rotate_left
  · intro w hSw
    clear hSw
    go_simp
    try with_reducible rfl
  try simp only [Act.put, List.getElem_toArray, List.getElem_cons_zero, List.getElem_cons_succ, List.setIfInBounds_toArray, List.set_cons_zero, List.set_cons_succ]
  refine wpAnyH_ready (rs := [2, 18]) (by kernel_rfl) (by simp) ?_
  refine AllReadyH.cons rfl (fun K hK => ?_) (AllReadyH.cons rfl (fun K hK => ?_) AllReadyH.nil)
  · go_simp
    refine (HS4.out _ HB2.out).mono ?_
    rintro e' w31 ⟨rfl, hb⟩
    have HB11 := Lib.hid (HB2.out.trans (hb.mono HB2.out.size))
    clear hb hHeld
    refine hK.out _ _ HB11.out (fun hHeld => ?_)
    clear hK K
    try simp only [Act.put, List.getElem_toArray, List.getElem_cons_zero, List.getElem_cons_succ, List.setIfInBounds_toArray, List.set_cons_zero, List.set_cons_succ]
    refine wpAnyH_ready (rs := [5, 18]) (by kernel_rfl) (by simp) ?_
    refine AllReadyH.cons rfl (fun K hK => ?_) (AllReadyH.cons rfl (fun K hK => ?_) AllReadyH.nil)
    · go_simp
      refine (HS10.out _ HB11.out).mono ?_
      rintro e' w33 ⟨rfl, hb⟩
      have HB13 := Lib.hid (HB11.out.trans (hb.mono HB11.out.size))
      clear hb hHeld
      refine hK.out _ _ HB13.out (fun hHeld => ?_)
      clear hK K
      try simp only [Act.put, List.getElem_toArray, List.getElem_cons_zero, List.getElem_cons_succ, List.setIfInBounds_toArray, List.set_cons_zero, List.set_cons_succ]
      refine wpAnyH_ready (rs := [8, 18]) (by kernel_rfl) (by simp) ?_
      refine AllReadyH.cons rfl (fun K hK => ?_) (AllReadyH.cons rfl (fun K hK => ?_) AllReadyH.nil)
      · go_simp
        refine (HS16.out _ HB13.out).mono ?_
        rintro e' w35 ⟨rfl, hb⟩
        have HB15 := Lib.hid (HB13.out.trans (hb.mono HB13.out.size))
        clear hb hHeld
        refine hK.out _ _ HB15.out (fun hHeld => ?_)
        clear hK K
        try simp only [Act.put, List.getElem_toArray, List.getElem_cons_zero, List.getElem_cons_succ, List.setIfInBounds_toArray, List.set_cons_zero, List.set_cons_succ]
        refine wpAnyH_ready (rs := [16, 18]) (by kernel_rfl) (by simp) ?_
        refine AllReadyH.cons rfl (fun K hK => ?_) (AllReadyH.cons rfl (fun K hK => ?_) AllReadyH.nil)
        · go_simp
          refine (HN28.out _ HB15.out).mono ?_
          rintro e' w37 ⟨rfl, hb⟩
          have HB17 := Lib.hid (HB15.out.trans (hb.mono HB15.out.size))
          clear hb hHeld
          refine hK.out _ _ HB17.out (fun hHeld => ?_)
          clear hK K
          try simp only [Act.put, List.getElem_toArray, List.getElem_cons_zero, List.getElem_cons_succ, List.setIfInBounds_toArray, List.set_cons_zero, List.set_cons_succ]
          refine wpAnyH_take (i := 17) (v := .agg (Dlf.mk (six xs 4) (six xs 10) (six xs 16) (bits .and .i64 T 2048 != 0) (T / 4096) R).cells) rfl (by kernel_rfl) (by kernel_rfl) (by kernel_rfl) (fun _ _ _ h => h) (Or.inl ⟨by rfl, ?_⟩) (by assumption) ?_
          · intro w hSw
            clear hSw
            go_simp
          try simp only [Act.put, List.getElem_toArray, List.getElem_cons_zero, List.getElem_cons_succ, List.setIfInBounds_toArray, List.set_cons_zero, List.set_cons_succ]
          refine wpAnyH_ready (rs := [18]) (by kernel_rfl) (by simp) ?_
          refine AllReadyH.cons rfl (fun K hK => ?_) AllReadyH.nil
          have HZ19 := Lib.hid (heap_alloc_last w37 (.cells d0.cells 27))
          have HB19 := Lib.hid (HB17.out.alloc HB17.out.size (.cells d0.cells 27))
          have HE19 := Lib.hid (show w37.heap.size < (w37.alloc (.cells d0.cells 27)).heap.size by simp)
          have HGE := Lib.hid HB17.out.size
          clear hHeld
          go_simp
          refine hK.out _ _ HB19.out (fun hHeld => ?_)
          clear hK K
          dsimp only [d0, Dlf.cells] at HZ19 HB19 HE19 hHeld
          generalize World.alloc w37 _ = w39 at *
          generalize w37.heap.size = h4 at *
          try simp only [Act.put, List.getElem_toArray, List.getElem_cons_zero, List.getElem_cons_succ, List.setIfInBounds_toArray, List.set_cons_zero, List.set_cons_succ]
          refine wpAnyH_ready (rs := [19]) (by kernel_rfl) (by simp) ?_
          refine AllReadyH.cons rfl (fun K hK => ?_) AllReadyH.nil
          rw [if_pos (by rfl)]
          refine wp_store_row _ _ _ rfl _ (Dlf.mk (six xs 4) (six xs 10) (six xs 16) (bits .and .i64 T 2048 != 0) (T / 4096) R).cells rfl rfl 27 d0.cells HZ19.out sizeDel rfl (Dlf.oneCell _) ?_
          have HBZ := Lib.hid (below_setRow HB19.out HGE.out (Dlf.mk (six xs 4) (six xs 10) (six xs 16) (bits .and .i64 T 2048 != 0) (T / 4096) R).cells)
          have HFZ := Lib.hid (setRow_heap _ _ _ (Dlf.mk (six xs 4) (six xs 10) (six xs 16) (bits .and .i64 T 2048 != 0) (T / 4096) R).cells _ _ HZ19.out)
          clear hHeld
          refine hK.out _ _ HBZ.out (fun hHeld => ?_)
          clear hK K hHeld
          refine wpAnyH_done (by kernel_rfl) ?_ _
          try simp only [Act.put, List.getElem_toArray, List.getElem_cons_zero, List.getElem_cons_succ, List.setIfInBounds_toArray, List.set_cons_zero, List.set_cons_succ]
          exact KEY _ _ HBZ HGE HFZ
        · have HZ18 := Lib.hid (heap_alloc_last w35 (.cells d0.cells 27))
          have HB18 := Lib.hid (HB15.out.alloc HB15.out.size (.cells d0.cells 27))
          have HE18 := Lib.hid (show w35.heap.size < (w35.alloc (.cells d0.cells 27)).heap.size by simp)
          have HGE := Lib.hid HB15.out.size
          clear hHeld
          go_simp
          refine hK.out _ _ HB18.out (fun hHeld => ?_)
          clear hK K
          dsimp only [d0, Dlf.cells] at HZ18 HB18 HE18 hHeld
          generalize World.alloc w35 _ = w38 at *
          generalize w35.heap.size = h4 at *
          try simp only [Act.put, List.getElem_toArray, List.getElem_cons_zero, List.getElem_cons_succ, List.setIfInBounds_toArray, List.set_cons_zero, List.set_cons_succ]
          refine wpAnyH_ready (rs := [16]) (by kernel_rfl) (by simp) ?_
          refine AllReadyH.cons rfl (fun K hK => ?_) AllReadyH.nil
          go_simp
          refine (HN28.out _ HB18.out).mono ?_
          rintro e' w20 ⟨rfl, hb⟩
          have HB20 := Lib.hid (HB18.out.trans (hb.mono HB18.out.size))
          have HZ20 := Lib.hid ((hb.block _ HE18.out).trans HZ18.out)
          have HE20 := Lib.hid (Nat.lt_of_lt_of_le HE18.out hb.size)
          clear hb hHeld
          refine hK.out _ _ HB20.out (fun hHeld => ?_)
          clear hK K
          try simp only [Act.put, List.getElem_toArray, List.getElem_cons_zero, List.getElem_cons_succ, List.setIfInBounds_toArray, List.set_cons_zero, List.set_cons_succ]
          refine wpAnyH_take (i := 17) (v := .agg (Dlf.mk (six xs 4) (six xs 10) (six xs 16) (bits .and .i64 T 2048 != 0) (T / 4096) R).cells) rfl (by kernel_rfl) (by kernel_rfl) (by kernel_rfl) (fun _ _ _ h => h) (Or.inl ⟨by rfl, ?_⟩) (by assumption) ?_
          · intro w hSw
            clear hSw
            go_simp
          try simp only [Act.put, List.getElem_toArray, List.getElem_cons_zero, List.getElem_cons_succ, List.setIfInBounds_toArray, List.set_cons_zero, List.set_cons_succ]
          refine wpAnyH_ready (rs := [19]) (by kernel_rfl) (by simp) ?_
          refine AllReadyH.cons rfl (fun K hK => ?_) AllReadyH.nil
          rw [if_pos (by rfl)]
          refine wp_store_row _ _ _ rfl _ (Dlf.mk (six xs 4) (six xs 10) (six xs 16) (bits .and .i64 T 2048 != 0) (T / 4096) R).cells rfl rfl 27 d0.cells HZ20.out sizeDel rfl (Dlf.oneCell _) ?_
          have HBZ := Lib.hid (below_setRow HB20.out HGE.out (Dlf.mk (six xs 4) (six xs 10) (six xs 16) (bits .and .i64 T 2048 != 0) (T / 4096) R).cells)
          have HFZ := Lib.hid (setRow_heap _ _ _ (Dlf.mk (six xs 4) (six xs 10) (six xs 16) (bits .and .i64 T 2048 != 0) (T / 4096) R).cells _ _ HZ20.out)
          clear hHeld
          refine hK.out _ _ HBZ.out (fun hHeld => ?_)
          clear hK K hHeld
          refine wpAnyH_done (by kernel_rfl) ?_ _
          try simp only [Act.put, List.getElem_toArray, List.getElem_cons_zero, List.getElem_cons_succ, List.setIfInBounds_toArray, List.set_cons_zero, List.set_cons_succ]
          exact KEY _ _ HBZ HGE HFZ
      · have HZ16 := Lib.hid (heap_alloc_last w33 (.cells d0.cells 27))
        have HB16 := Lib.hid (HB13.out.alloc HB13.out.size (.cells d0.cells 27))
        have HE16 := Lib.hid (show w33.heap.size < (w33.alloc (.cells d0.cells 27)).heap.size by simp)
        have HGE := Lib.hid HB13.out.size
        clear hHeld
        go_simp
        refine hK.out _ _ HB16.out (fun hHeld => ?_)
        clear hK K
        dsimp only [d0, Dlf.cells] at HZ16 HB16 HE16 hHeld
        generalize World.alloc w33 _ = w36 at *
        generalize w33.heap.size = h4 at *
        try simp only [Act.put, List.getElem_toArray, List.getElem_cons_zero, List.getElem_cons_succ, List.setIfInBounds_toArray, List.set_cons_zero, List.set_cons_succ]
        refine wpAnyH_ready (rs := [8]) (by kernel_rfl) (by simp) ?_
        refine AllReadyH.cons rfl (fun K hK => ?_) AllReadyH.nil
        go_simp
        refine (HS16.out _ HB16.out).mono ?_
        rintro e' w21 ⟨rfl, hb⟩
        have HB21 := Lib.hid (HB16.out.trans (hb.mono HB16.out.size))
        have HZ21 := Lib.hid ((hb.block _ HE16.out).trans HZ16.out)
        have HE21 := Lib.hid (Nat.lt_of_lt_of_le HE16.out hb.size)
        clear hb hHeld
        refine hK.out _ _ HB21.out (fun hHeld => ?_)
        clear hK K
        try simp only [Act.put, List.getElem_toArray, List.getElem_cons_zero, List.getElem_cons_succ, List.setIfInBounds_toArray, List.set_cons_zero, List.set_cons_succ]
        refine wpAnyH_ready (rs := [16]) (by kernel_rfl) (by simp) ?_
        refine AllReadyH.cons rfl (fun K hK => ?_) AllReadyH.nil
        go_simp
        refine (HN28.out _ HB21.out).mono ?_
        rintro e' w22 ⟨rfl, hb⟩
        have HB22 := Lib.hid (HB21.out.trans (hb.mono HB21.out.size))
        have HZ22 := Lib.hid ((hb.block _ HE21.out).trans HZ21.out)
        have HE22 := Lib.hid (Nat.lt_of_lt_of_le HE21.out hb.size)
        clear hb hHeld
        refine hK.out _ _ HB22.out (fun hHeld => ?_)
        clear hK K
        try simp only [Act.put, List.getElem_toArray, List.getElem_cons_zero, List.getElem_cons_succ, List.setIfInBounds_toArray, List.set_cons_zero, List.set_cons_succ]
        refine wpAnyH_take (i := 17) (v := .agg (Dlf.mk (six xs 4) (six xs 10) (six xs 16) (bits .and .i64 T 2048 != 0) (T / 4096) R).cells) rfl (by kernel_rfl) (by kernel_rfl) (by kernel_rfl) (fun _ _ _ h => h) (Or.inl ⟨by rfl, ?_⟩) (by assumption) ?_
        · intro w hSw
          clear hSw
          go_simp
        try simp only [Act.put, List.getElem_toArray, List.getElem_cons_zero, List.getElem_cons_succ, List.setIfInBounds_toArray, List.set_cons_zero, List.set_cons_succ]
        refine wpAnyH_ready (rs := [19]) (by kernel_rfl) (by simp) ?_
        refine AllReadyH.cons rfl (fun K hK => ?_) AllReadyH.nil
        rw [if_pos (by rfl)]
        refine wp_store_row _ _ _ rfl _ (Dlf.mk (six xs 4) (six xs 10) (six xs 16) (bits .and .i64 T 2048 != 0) (T / 4096) R).cells rfl rfl 27 d0.cells HZ22.out sizeDel rfl (Dlf.oneCell _) ?_
        have HBZ := Lib.hid (below_setRow HB22.out HGE.out (Dlf.mk (six xs 4) (six xs 10) (six xs 16) (bits .and .i64 T 2048 != 0) (T / 4096) R).cells)
        have HFZ := Lib.hid (setRow_heap _ _ _ (Dlf.mk (six xs 4) (six xs 10) (six xs 16) (bits .and .i64 T 2048 != 0) (T / 4096) R).cells _ _ HZ22.out)
        clear hHeld
        refine hK.out _ _ HBZ.out (fun hHeld => ?_)
        clear hK K hHeld
        refine wpAnyH_done (by kernel_rfl) ?_ _
        try simp only [Act.put, List.getElem_toArray, List.getElem_cons_zero, List.getElem_cons_succ, List.setIfInBounds_toArray, List.set_cons_zero, List.set_cons_succ]
        exact KEY _ _ HBZ HGE HFZ
    · have HZ14 := Lib.hid (heap_alloc_last w31 (.cells d0.cells 27))
      have HB14 := Lib.hid (HB11.out.alloc HB11.out.size (.cells d0.cells 27))
      have HE14 := Lib.hid (show w31.heap.size < (w31.alloc (.cells d0.cells 27)).heap.size by simp)
      have HGE := Lib.hid HB11.out.size
      clear hHeld
      go_simp
      refine hK.out _ _ HB14.out (fun hHeld => ?_)
      clear hK K
      dsimp only [d0, Dlf.cells] at HZ14 HB14 HE14 hHeld
      generalize World.alloc w31 _ = w34 at *
      generalize w31.heap.size = h4 at *
      try simp only [Act.put, List.getElem_toArray, List.getElem_cons_zero, List.getElem_cons_succ, List.setIfInBounds_toArray, List.set_cons_zero, List.set_cons_succ]
      refine wpAnyH_ready (rs := [5]) (by kernel_rfl) (by simp) ?_
      refine AllReadyH.cons rfl (fun K hK => ?_) AllReadyH.nil
      go_simp
      refine (HS10.out _ HB14.out).mono ?_
      rintro e' w23 ⟨rfl, hb⟩
      have HB23 := Lib.hid (HB14.out.trans (hb.mono HB14.out.size))
      have HZ23 := Lib.hid ((hb.block _ HE14.out).trans HZ14.out)
      have HE23 := Lib.hid (Nat.lt_of_lt_of_le HE14.out hb.size)
      clear hb hHeld
      refine hK.out _ _ HB23.out (fun hHeld => ?_)
      clear hK K
      try simp only [Act.put, List.getElem_toArray, List.getElem_cons_zero, List.getElem_cons_succ, List.setIfInBounds_toArray, List.set_cons_zero, List.set_cons_succ]
      refine wpAnyH_ready (rs := [8]) (by kernel_rfl) (by simp) ?_
      refine AllReadyH.cons rfl (fun K hK => ?_) AllReadyH.nil
      go_simp
      refine (HS16.out _ HB23.out).mono ?_
      rintro e' w24 ⟨rfl, hb⟩
      have HB24 := Lib.hid (HB23.out.trans (hb.mono HB23.out.size))
      have HZ24 := Lib.hid ((hb.block _ HE23.out).trans HZ23.out)
      have HE24 := Lib.hid (Nat.lt_of_lt_of_le HE23.out hb.size)
      clear hb hHeld
      refine hK.out _ _ HB24.out (fun hHeld => ?_)
      clear hK K
      try simp only [Act.put, List.getElem_toArray, List.getElem_cons_zero, List.getElem_cons_succ, List.setIfInBounds_toArray, List.set_cons_zero, List.set_cons_succ]
      refine wpAnyH_ready (rs := [16]) (by kernel_rfl) (by simp) ?_
      refine AllReadyH.cons rfl (fun K hK => ?_) AllReadyH.nil
      go_simp
      refine (HN28.out _ HB24.out).mono ?_
      rintro e' w25 ⟨rfl, hb⟩
      have HB25 := Lib.hid (HB24.out.trans (hb.mono HB24.out.size))
      have HZ25 := Lib.hid ((hb.block _ HE24.out).trans HZ24.out)
      have HE25 := Lib.hid (Nat.lt_of_lt_of_le HE24.out hb.size)
      clear hb hHeld
      refine hK.out _ _ HB25.out (fun hHeld => ?_)
      clear hK K
      try simp only [Act.put, List.getElem_toArray, List.getElem_cons_zero, List.getElem_cons_succ, List.setIfInBounds_toArray, List.set_cons_zero, List.set_cons_succ]
      refine wpAnyH_take (i := 17) (v := .agg (Dlf.mk (six xs 4) (six xs 10) (six xs 16) (bits .and .i64 T 2048 != 0) (T / 4096) R).cells) rfl (by kernel_rfl) (by kernel_rfl) (by kernel_rfl) (fun _ _ _ h => h) (Or.inl ⟨by rfl, ?_⟩) (by assumption) ?_
      · intro w hSw
        clear hSw
        go_simp
      try simp only [Act.put, List.getElem_toArray, List.getElem_cons_zero, List.getElem_cons_succ, List.setIfInBounds_toArray, List.set_cons_zero, List.set_cons_succ]
      refine wpAnyH_ready (rs := [19]) (by kernel_rfl) (by simp) ?_
      refine AllReadyH.cons rfl (fun K hK => ?_) AllReadyH.nil
      rw [if_pos (by rfl)]
      refine wp_store_row _ _ _ rfl _ (Dlf.mk (six xs 4) (six xs 10) (six xs 16) (bits .and .i64 T 2048 != 0) (T / 4096) R).cells rfl rfl 27 d0.cells HZ25.out sizeDel rfl (Dlf.oneCell _) ?_
      have HBZ := Lib.hid (below_setRow HB25.out HGE.out (Dlf.mk (six xs 4) (six xs 10) (six xs 16) (bits .and .i64 T 2048 != 0) (T / 4096) R).cells)
      have HFZ := Lib.hid (setRow_heap _ _ _ (Dlf.mk (six xs 4) (six xs 10) (six xs 16) (bits .and .i64 T 2048 != 0) (T / 4096) R).cells _ _ HZ25.out)
      clear hHeld
      refine hK.out _ _ HBZ.out (fun hHeld => ?_)
      clear hK K hHeld
      refine wpAnyH_done (by kernel_rfl) ?_ _
      try simp only [Act.put, List.getElem_toArray, List.getElem_cons_zero, List.getElem_cons_succ, List.setIfInBounds_toArray, List.set_cons_zero, List.set_cons_succ]
      exact KEY _ _ HBZ HGE HFZ
  · have HZ12 := Lib.hid (heap_alloc_last w2 (.cells d0.cells 27))
    have HB12 := Lib.hid (HB2.out.alloc HB2.out.size (.cells d0.cells 27))
    have HE12 := Lib.hid (show w2.heap.size < (w2.alloc (.cells d0.cells 27)).heap.size by simp)
    have HGE := Lib.hid HB2.out.size
    clear hHeld
    go_simp
    refine hK.out _ _ HB12.out (fun hHeld => ?_)
    clear hK K
    dsimp only [d0, Dlf.cells] at HZ12 HB12 HE12 hHeld
    generalize World.alloc w2 _ = w32 at *
    generalize w2.heap.size = h4 at *
    try simp only [Act.put, List.getElem_toArray, List.getElem_cons_zero, List.getElem_cons_succ, List.setIfInBounds_toArray, List.set_cons_zero, List.set_cons_succ]
    refine wpAnyH_ready (rs := [2]) (by kernel_rfl) (by simp) ?_
    refine AllReadyH.cons rfl (fun K hK => ?_) AllReadyH.nil
    go_simp
    refine (HS4.out _ HB12.out).mono ?_
    rintro e' w26 ⟨rfl, hb⟩
    have HB26 := Lib.hid (HB12.out.trans (hb.mono HB12.out.size))
    have HZ26 := Lib.hid ((hb.block _ HE12.out).trans HZ12.out)
    have HE26 := Lib.hid (Nat.lt_of_lt_of_le HE12.out hb.size)
    clear hb hHeld
    refine hK.out _ _ HB26.out (fun hHeld => ?_)
    clear hK K
    try simp only [Act.put, List.getElem_toArray, List.getElem_cons_zero, List.getElem_cons_succ, List.setIfInBounds_toArray, List.set_cons_zero, List.set_cons_succ]
    refine wpAnyH_ready (rs := [5]) (by kernel_rfl) (by simp) ?_
    refine AllReadyH.cons rfl (fun K hK => ?_) AllReadyH.nil
    go_simp
    refine (HS10.out _ HB26.out).mono ?_
    rintro e' w27 ⟨rfl, hb⟩
    have HB27 := Lib.hid (HB26.out.trans (hb.mono HB26.out.size))
    have HZ27 := Lib.hid ((hb.block _ HE26.out).trans HZ26.out)
    have HE27 := Lib.hid (Nat.lt_of_lt_of_le HE26.out hb.size)
    clear hb hHeld
    refine hK.out _ _ HB27.out (fun hHeld => ?_)
    clear hK K
    try simp only [Act.put, List.getElem_toArray, List.getElem_cons_zero, List.getElem_cons_succ, List.setIfInBounds_toArray, List.set_cons_zero, List.set_cons_succ]
    refine wpAnyH_ready (rs := [8]) (by kernel_rfl) (by simp) ?_
    refine AllReadyH.cons rfl (fun K hK => ?_) AllReadyH.nil
    go_simp
    refine (HS16.out _ HB27.out).mono ?_
    rintro e' w28 ⟨rfl, hb⟩
    have HB28 := Lib.hid (HB27.out.trans (hb.mono HB27.out.size))
    have HZ28 := Lib.hid ((hb.block _ HE27.out).trans HZ27.out)
    have HE28 := Lib.hid (Nat.lt_of_lt_of_le HE27.out hb.size)
    clear hb hHeld
    refine hK.out _ _ HB28.out (fun hHeld => ?_)
    clear hK K
    try simp only [Act.put, List.getElem_toArray, List.getElem_cons_zero, List.getElem_cons_succ, List.setIfInBounds_toArray, List.set_cons_zero, List.set_cons_succ]
    refine wpAnyH_ready (rs := [16]) (by kernel_rfl) (by simp) ?_
    refine AllReadyH.cons rfl (fun K hK => ?_) AllReadyH.nil
    go_simp
    refine (HN28.out _ HB28.out).mono ?_
    rintro e' w29 ⟨rfl, hb⟩
    have HB29 := Lib.hid (HB28.out.trans (hb.mono HB28.out.size))
    have HZ29 := Lib.hid ((hb.block _ HE28.out).trans HZ28.out)
    have HE29 := Lib.hid (Nat.lt_of_lt_of_le HE28.out hb.size)
    clear hb hHeld
    refine hK.out _ _ HB29.out (fun hHeld => ?_)
    clear hK K
    try simp only [Act.put, List.getElem_toArray, List.getElem_cons_zero, List.getElem_cons_succ, List.setIfInBounds_toArray, List.set_cons_zero, List.set_cons_succ]
    refine wpAnyH_take (i := 17) (v := .agg (Dlf.mk (six xs 4) (six xs 10) (six xs 16) (bits .and .i64 T 2048 != 0) (T / 4096) R).cells) rfl (by kernel_rfl) (by kernel_rfl) (by kernel_rfl) (fun _ _ _ h => h) (Or.inl ⟨by rfl, ?_⟩) (by assumption) ?_
    · intro w hSw
      clear hSw
      go_simp
    try simp only [Act.put, List.getElem_toArray, List.getElem_cons_zero, List.getElem_cons_succ, List.setIfInBounds_toArray, List.set_cons_zero, List.set_cons_succ]
    refine wpAnyH_ready (rs := [19]) (by kernel_rfl) (by simp) ?_
    refine AllReadyH.cons rfl (fun K hK => ?_) AllReadyH.nil
    rw [if_pos (by rfl)]
    refine wp_store_row _ _ _ rfl _ (Dlf.mk (six xs 4) (six xs 10) (six xs 16) (bits .and .i64 T 2048 != 0) (T / 4096) R).cells rfl rfl 27 d0.cells HZ29.out sizeDel rfl (Dlf.oneCell _) ?_
    have HBZ := Lib.hid (below_setRow HB29.out HGE.out (Dlf.mk (six xs 4) (six xs 10) (six xs 16) (bits .and .i64 T 2048 != 0) (T / 4096) R).cells)
    have HFZ := Lib.hid (setRow_heap _ _ _ (Dlf.mk (six xs 4) (six xs 10) (six xs 16) (bits .and .i64 T 2048 != 0) (T / 4096) R).cells _ _ HZ29.out)
    clear hHeld
    refine hK.out _ _ HBZ.out (fun hHeld => ?_)
    clear hK K hHeld
    refine wpAnyH_done (by kernel_rfl) ?_ _
    try simp only [Act.put, List.getElem_toArray, List.getElem_cons_zero, List.getElem_cons_succ, List.setIfInBounds_toArray, List.set_cons_zero, List.set_cons_succ]
    exact KEY _ _ HBZ HGE HFZ
theorem refReadDel_all (A : Option Addr) (n c : Nat) (xs : List Int) (w : World) (h : RowB .u8 w A n xs) (hnc : n ≤ c) :
    Calls Tryd.prog 15 #[.slice A n c] w fun e w' => e = .returned (.tuple #[(outDel xs n).val, .int .i64 (rdDel xs n : Nat)]) ∧ Below w.heap.size w w' := by
  by_cases hb : begA xs n 30 [2] = 0
  · exact refReadDel_fit A n c xs w h hnc hb
  · exact refReadDel_beg A n c xs w h hb
end Go.Proofs.YtjgingfcfmpfaaaDoor
