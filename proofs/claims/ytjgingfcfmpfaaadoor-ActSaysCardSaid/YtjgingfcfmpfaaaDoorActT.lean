/-
  CONTRACT of the reference's ReadAdd.
-/
import Derived.Test.YtjgingfcfmpfaaaDoorActR
import Derived.Test.YtjgingfcfmpfaaaDoorActL
namespace Go.Proofs.YtjgingfcfmpfaaaDoor
open Go.ChangeShapes Go.WideShapes Go.ChangeAt Go.RowKit
set_option linter.unusedVariables false
set_option linter.unusedSimpArgs false

set_option maxRecDepth 100000 in
set_option maxHeartbeats 8000000 in
theorem refReadAdd_beg (A : Option Addr) (n c : Nat) (xs : List Int) (w : World) (h : RowB .u8 w A n xs) (hb : begA xs n 33 [0, 1] ≠ 0) :
    Calls Tryd.prog 14 #[.slice A n c] w fun e w' => e = .returned (.tuple #[(outAdd xs n).val, .int .i64 (rdAdd xs n : Nat)]) ∧ Below w.heap.size w w' := by
  have HEQ := Lib.hid (rdAdd_beg hb)
  have HB := Lib.hid ((Below.refl w.heap.size w).alloc (Nat.le_refl _) (.cells a0.cells 25))
  have HC := Lib.hid (session_any A n c xs 0 1 33 [0, 1] _ (h.below HB.out) between01)
  have hne : (((begA xs n 33 [0, 1] : Nat) : Int) != 0) = true := by simp; omega
  generalize begA xs n 33 [0, 1] = m at *
  have HG := Lib.hid (heap_alloc_last w (.cells a0.cells 25))
  clear h hb
  go_enter Tryd.func14, Tryd.ntmps14
  go_wp2_with (fail)
  refine HC.out.mono ?_
  rintro e w2 ⟨rfl, rfl⟩
  generalize w.alloc (.cells a0.cells 25) = w1 at *
  go_wp2_with (refine wpList_store_row rfl 25 (.tmp 2) (.tmp 13) rfl w.heap.size a0.cells rfl rfl 25 a0.cells HG.out sizeAdd rfl (Adf.oneCell _) ?_; rw [setRow_same _ _ _ _ _ HG.out])
  refine bodyPost_ret (v := .tuple #[.agg a0.cells, .int .i64 (m : Nat)]) (results_cell_slot (p := 2) (q := 3) Tryd.results14 _ _ w.heap.size _ a0.cells _ _ rfl HG.out Tryd.underlying25 rfl sizeAdd) rfl ⟨by rw [HEQ.out.1, HEQ.out.2], HB.out⟩
set_option maxRecDepth 100000 in
set_option maxHeartbeats 8000000 in
theorem refReadAdd_ans (A : Option Addr) (n c : Nat) (xs : List Int) (w : World) (h : RowB .u8 w A n xs) (hnc : n ≤ c) (hb : begA xs n 33 [0, 1] = 0) (h25 : xs.getD 25 0 = 1) :
    Calls Tryd.prog 14 #[.slice A n c] w fun e w' => e = .returned (.tuple #[(outAdd xs n).val, .int .i64 (rdAdd xs n : Nat)]) ∧ Below w.heap.size w w' := by
  have hq := begA_fine hb
  have hn1 : n = 33 := by omega
  subst hn1
  have HB := Lib.hid ((Below.refl w.heap.size w).alloc (Nat.le_refl _) (.cells a0.cells 25))
  have HR := Lib.hid h
  have HC := Lib.hid (session_any A 33 c xs 0 1 33 [0, 1] _ (h.below HB.out) between01)
  rw [hb] at HC
  have HG := Lib.hid (heap_alloc_last w (.cells a0.cells 25))
  have HSZ := Lib.hid (show w.heap.size < (w.alloc (.cells a0.cells 25)).heap.size by simp)
  have HW := Lib.hid (show ∀ i, i < 33 → 0 ≤ xs.getD i 0 ∧ xs.getD i 0 ≤ 255 from fun i hi => h.wf8 i hi)
  obtain ⟨b, off, rfl, -⟩ := HR.out.cells (by omega)
  have hnc' : (33 : Int) ≤ (c : Int) := by omega
  obtain ⟨p0, p1⟩ := numAt_wf HR.out 27 (by omega)
  obtain ⟨q0, q1⟩ := numAt_wf HR.out 29 (by omega)
  obtain ⟨r0, r1⟩ := numAt_wf HR.out 31 (by omega)
  obtain ⟨v0, v1⟩ := HW.out 26 (by omega)
  have HD := Lib.hid (show decAdd xs = ⟨six xs 4, six xs 10, six xs 16, true, xs.getD 26 0, numAt xs 29 / 4 % 16, numAt xs 29 / 64, numAt xs 31, 0, numAt xs 27⟩ by unfold decAdd; rw [if_pos h25, show numAt xs 29 % 64 / 4 = numAt xs 29 / 4 % 16 by omega])
  have HMEM := Lib.hid (fun hok => encAdd_mem (q := ⟨six xs 4, six xs 10, six xs 16, true, xs.getD 26 0, numAt xs 29 / 4 % 16, numAt xs 29 / 64, numAt xs 31, 0, numAt xs 27⟩) (six_wf 4 (by omega) HW.out) (six_wf 10 (by omega) HW.out) (six_wf 16 (by omega) HW.out) hok)
  have HV0 := Lib.hid (show w.cell? ⟨b, off + 25, none⟩ = some (.int .u8 1) ∧ w.cell? ⟨b, off + 26, none⟩ = some (.int .u8 (xs.getD 26 0)) from ⟨by rw [← h25]; exact HR.out.at_ 25 (by omega), HR.out.at_ 26 (by omega)⟩)
  generalize xs.getD 26 0 = v26 at *
  generalize hn27 : numAt xs 27 = S at *
  have HV27 := Lib.hid hn27
  clear hn27
  generalize hn29 : numAt xs 29 = T at *
  have HV29 := Lib.hid hn29
  clear hn29
  generalize hn31 : numAt xs 31 = M at *
  have HV31 := Lib.hid hn31
  clear hn31
  have x0 : IntKind.i64.wrap v26 = v26 := IntWalk.i64_in _ ⟨by omega, by omega⟩
  have x1 : IntKind.i64.wrap (T.tdiv 4) = T / 4 := by rw [Int.tdiv_eq_ediv_of_nonneg (by omega)]; exact IntWalk.i64_in _ ⟨by omega, by omega⟩
  have x2 : IntKind.i64.wrap (T.tdiv 64) = T / 64 := by rw [Int.tdiv_eq_ediv_of_nonneg (by omega)]; exact IntWalk.i64_in _ ⟨by omega, by omega⟩
  have x4 : (0 : Int) ≤ T / 4 := by omega
  have d4 : (c = 4) = False := by simp; omega
  have d10 : (c = 10) = False := by simp; omega
  have d16 : (c = 16) = False := by simp; omega
  have d27 : (c = 27) = False := by simp; omega
  have d29 : (c = 29) = False := by simp; omega
  have d31 : (c = 31) = False := by simp; omega
  clear h hq
  go_enter Tryd.func14, Tryd.ntmps14
  go_wp2_with (fail)
  refine HC.out.mono ?_
  rintro e w2 ⟨rfl, rfl⟩
  generalize w.alloc (.cells a0.cells 25) = w1 at *
  clear HC
  have HS4 := Lib.hid (show ∀ w' : World, Below w1.heap.size w1 w' → Calls Tryd.prog 34 #[.slice (some ⟨b, off + 4, none⟩) (33 - 4) (c - 4)] w' fun e w'' => e = .returned (six xs 4).val ∧ Below w'.heap.size w' w'' from
    fun w' hb => six_off 4 b off 33 c xs w' (HR.out.below (HB.out.trans (hb.mono HB.out.size))) (by omega))
  have HS10 := Lib.hid (show ∀ w' : World, Below w1.heap.size w1 w' → Calls Tryd.prog 34 #[.slice (some ⟨b, off + 10, none⟩) (33 - 10) (c - 10)] w' fun e w'' => e = .returned (six xs 10).val ∧ Below w'.heap.size w' w'' from
    fun w' hb => six_off 10 b off 33 c xs w' (HR.out.below (HB.out.trans (hb.mono HB.out.size))) (by omega))
  have HS16 := Lib.hid (show ∀ w' : World, Below w1.heap.size w1 w' → Calls Tryd.prog 34 #[.slice (some ⟨b, off + 16, none⟩) (33 - 16) (c - 16)] w' fun e w'' => e = .returned (six xs 16).val ∧ Below w'.heap.size w' w'' from
    fun w' hb => six_off 16 b off 33 c xs w' (HR.out.below (HB.out.trans (hb.mono HB.out.size))) (by omega))
  have HV := Lib.hid (show ∀ w' : World, Below w1.heap.size w1 w' → w'.cell? ⟨b, off + 25, none⟩ = some (.int .u8 1) ∧ w'.cell? ⟨b, off + 26, none⟩ = some (.int .u8 v26) from
    fun w' hb => ⟨below_at (HB.out.trans (hb.mono HB.out.size)) HV0.out.1, below_at (HB.out.trans (hb.mono HB.out.size)) HV0.out.2⟩)
  go_wp2
  rename_i h9 K9 a9
  have KEY : ∀ (w5 : World) (h4 : Nat), Hid (Below w1.heap.size w1 w5) → Hid (w1.heap.size ≤ h4) → Hid (w5.heap[h4]? = some (.cells (Adf.mk (six xs 4) (six xs 10) (six xs 16) false v26 0 0 0 0 0).cells 25 (0, 0))) → Exit.then K9 (bodyPost Tryd.prog Tryd.f14 fun e w' => e = .returned (.tuple #[(outAdd xs 33).val, .int .i64 (rdAdd xs 33 : Nat)]) ∧ Below w.heap.size w w') .normal { tmps := #[.slice (some ⟨b, off, none⟩) 33 c, undef, .pointer (some ⟨w.heap.size, 0, none⟩), .int .i64 0, .int .i64 0, .pointer (some ⟨h4, 0, none⟩), undef, undef, undef, .slice (some ⟨b, off, none⟩) 33 c, .int .i64 0, .int .i64 0, .bool false, undef, undef, .slice (some ⟨b, off, none⟩) 33 c, .slice (some ⟨b, off + 4, none⟩) (33 - 4) (c - 4), .agg (six xs 4).cells, .slice (some ⟨b, off, none⟩) 33 c, .slice (some ⟨b, off + 10, none⟩) (33 - 10) (c - 10), .agg (six xs 10).cells, .slice (some ⟨b, off, none⟩) 33 c, .slice (some ⟨b, off + 16, none⟩) (33 - 16) (c - 16), .agg (six xs 16).cells, .slice (some ⟨b, off, none⟩) 33 c, .pointer (some ⟨b, off + 26, none⟩), .int .u8 v26, .int .i64 v26, .agg (Adf.mk (six xs 4) (six xs 10) (six xs 16) false v26 0 0 0 0 0).cells, undef, undef, undef, undef, undef, undef, undef, undef, undef, undef, undef, undef, undef, undef, undef, undef, undef, undef, undef, undef, undef, undef, undef, undef, undef, undef, undef, undef, undef, undef, undef, undef, undef, undef, undef, undef, undef, undef, undef, undef, undef, undef, undef, undef, undef, undef, undef, undef, undef, undef], defers := [] } w5 := by
    intro w5 bF HB5 HH5 HF
    have HLh := Lib.hid (Nat.lt_of_lt_of_le HSZ.out HH5.out)
    have T0 := Lib.hid (HB.out.trans (HB5.out.mono HB.out.size))
    have T1 := Lib.hid ((HB5.out.block _ HSZ.out).trans HG.out)
    clear HB5 HH5
    clear HB HG
    have HB := T0
    have HG := T1
    clear T0 T1
    have e25 := below_at HB.out HV0.out.1
    go_wp2_with ((refine wpList_store_into rfl 4 (.tmp 33) (.const (.bool true)) rfl bF 18 (.bool true) rfl rfl rfl 25 (Adf.mk (six xs 4) (six xs 10) (six xs 16) false v26 0 0 0 0 0).cells (Adf.mk (six xs 4) (six xs 10) (six xs 16) true v26 0 0 0 0 0).cells HF.out sizeBool (show 18 < 25 by decide) rfl ?_; have T0 := Lib.hid (below_setRow HB.out (Nat.le_of_lt HLh.out) (Adf.mk (six xs 4) (six xs 10) (six xs 16) true v26 0 0 0 0 0).cells); have T1 := Lib.hid ((setRow_other _ bF w.heap.size (Adf.mk (six xs 4) (six xs 10) (six xs 16) true v26 0 0 0 0 0).cells (Nat.ne_of_lt HLh.out)).trans HG.out); have T2 := Lib.hid (setRow_heap _ bF _ (Adf.mk (six xs 4) (six xs 10) (six xs 16) true v26 0 0 0 0 0).cells _ _ HF.out); clear HB HG HF; have HB := T0; have HG := T1; have HF := T2; clear T0 T1 T2; generalize World.setRow _ _ _ = w5 at *))
    refine (num_off 27 b off 33 c xs w5 (HR.out.below HB.out) (by omega)).mono ?_
    rintro e w6 ⟨rfl, hB⟩
    rw [HV27.out]
    have T0 := Lib.hid (HB.out.trans (hB.mono HB.out.size))
    have T1 := Lib.hid ((hB.block _ (lt_of_block HG.out)).trans HG.out)
    have T2 := Lib.hid ((hB.block _ (lt_of_block HF.out)).trans HF.out)
    clear hB
    clear HB HG HF
    have HB := T0
    have HG := T1
    have HF := T2
    clear T0 T1 T2
    generalize w6 = w5 at *
    go_wp2_with ((refine wpList_store_into rfl 3 (.tmp 37) (.tmp 36) rfl bF 24 (.int .i64 S) rfl rfl rfl 25 (Adf.mk (six xs 4) (six xs 10) (six xs 16) true v26 0 0 0 0 0).cells (Adf.mk (six xs 4) (six xs 10) (six xs 16) true v26 0 0 0 0 S).cells HF.out sizeI64 (show 24 < 25 by decide) rfl ?_; have T0 := Lib.hid (below_setRow HB.out (Nat.le_of_lt HLh.out) (Adf.mk (six xs 4) (six xs 10) (six xs 16) true v26 0 0 0 0 S).cells); have T1 := Lib.hid ((setRow_other _ bF w.heap.size (Adf.mk (six xs 4) (six xs 10) (six xs 16) true v26 0 0 0 0 S).cells (Nat.ne_of_lt HLh.out)).trans HG.out); have T2 := Lib.hid (setRow_heap _ bF _ (Adf.mk (six xs 4) (six xs 10) (six xs 16) true v26 0 0 0 0 S).cells _ _ HF.out); clear HB HG HF; have HB := T0; have HG := T1; have HF := T2; clear T0 T1 T2; generalize World.setRow _ _ _ = w5 at *))
    refine (num_off 29 b off 33 c xs w5 (HR.out.below HB.out) (by omega)).mono ?_
    rintro e w6 ⟨rfl, hB⟩
    rw [HV29.out]
    have T0 := Lib.hid (HB.out.trans (hB.mono HB.out.size))
    have T1 := Lib.hid ((hB.block _ (lt_of_block HG.out)).trans HG.out)
    have T2 := Lib.hid ((hB.block _ (lt_of_block HF.out)).trans HF.out)
    clear hB
    clear HB HG HF
    have HB := T0
    have HG := T1
    have HF := T2
    clear T0 T1 T2
    generalize w6 = w5 at *
    go_wp2_with (fail)
    refine (num_off 31 b off 33 c xs w5 (HR.out.below HB.out) (by omega)).mono ?_
    rintro e w6 ⟨rfl, hB⟩
    rw [HV31.out]
    have T0 := Lib.hid (HB.out.trans (hB.mono HB.out.size))
    have T1 := Lib.hid ((hB.block _ (lt_of_block HG.out)).trans HG.out)
    have T2 := Lib.hid ((hB.block _ (lt_of_block HF.out)).trans HF.out)
    clear hB
    clear HB HG HF
    have HB := T0
    have HG := T1
    have HF := T2
    clear T0 T1 T2
    generalize w6 = w5 at *
    go_wp2_with (first
      | (refine wpList_store_into rfl 3 (.tmp 44) (.tmp 43) rfl bF 22 (.int .i64 M) rfl rfl rfl 25 (Adf.mk (six xs 4) (six xs 10) (six xs 16) true v26 0 0 0 0 S).cells (Adf.mk (six xs 4) (six xs 10) (six xs 16) true v26 0 0 M 0 S).cells HF.out sizeI64 (show 22 < 25 by decide) rfl ?_; have T0 := Lib.hid (below_setRow HB.out (Nat.le_of_lt HLh.out) (Adf.mk (six xs 4) (six xs 10) (six xs 16) true v26 0 0 M 0 S).cells); have T1 := Lib.hid ((setRow_other _ bF w.heap.size (Adf.mk (six xs 4) (six xs 10) (six xs 16) true v26 0 0 M 0 S).cells (Nat.ne_of_lt HLh.out)).trans HG.out); have T2 := Lib.hid (setRow_heap _ bF _ (Adf.mk (six xs 4) (six xs 10) (six xs 16) true v26 0 0 M 0 S).cells _ _ HF.out); clear HB HG HF; have HB := T0; have HG := T1; have HF := T2; clear T0 T1 T2; generalize World.setRow _ _ _ = w5 at *)
      | (refine wpList_store_into rfl 3 (.tmp 60) (.tmp 59) rfl bF 20 (.int .i64 (T / 4 % 16)) rfl rfl rfl 25 (Adf.mk (six xs 4) (six xs 10) (six xs 16) true v26 0 0 M 0 S).cells (Adf.mk (six xs 4) (six xs 10) (six xs 16) true v26 (T / 4 % 16) 0 M 0 S).cells HF.out sizeI64 (show 20 < 25 by decide) rfl ?_; have T0 := Lib.hid (below_setRow HB.out (Nat.le_of_lt HLh.out) (Adf.mk (six xs 4) (six xs 10) (six xs 16) true v26 (T / 4 % 16) 0 M 0 S).cells); have T1 := Lib.hid ((setRow_other _ bF w.heap.size (Adf.mk (six xs 4) (six xs 10) (six xs 16) true v26 (T / 4 % 16) 0 M 0 S).cells (Nat.ne_of_lt HLh.out)).trans HG.out); have T2 := Lib.hid (setRow_heap _ bF _ (Adf.mk (six xs 4) (six xs 10) (six xs 16) true v26 (T / 4 % 16) 0 M 0 S).cells _ _ HF.out); clear HB HG HF; have HB := T0; have HG := T1; have HF := T2; clear T0 T1 T2; generalize World.setRow _ _ _ = w5 at *)
      | (refine wpList_store_into rfl 3 (.tmp 63) (.tmp 62) rfl bF 21 (.int .i64 (T / 64)) rfl rfl rfl 25 (Adf.mk (six xs 4) (six xs 10) (six xs 16) true v26 (T / 4 % 16) 0 M 0 S).cells (Adf.mk (six xs 4) (six xs 10) (six xs 16) true v26 (T / 4 % 16) (T / 64) M 0 S).cells HF.out sizeI64 (show 21 < 25 by decide) rfl ?_; have T0 := Lib.hid (below_setRow HB.out (Nat.le_of_lt HLh.out) (Adf.mk (six xs 4) (six xs 10) (six xs 16) true v26 (T / 4 % 16) (T / 64) M 0 S).cells); have T1 := Lib.hid ((setRow_other _ bF w.heap.size (Adf.mk (six xs 4) (six xs 10) (six xs 16) true v26 (T / 4 % 16) (T / 64) M 0 S).cells (Nat.ne_of_lt HLh.out)).trans HG.out); have T2 := Lib.hid (setRow_heap _ bF _ (Adf.mk (six xs 4) (six xs 10) (six xs 16) true v26 (T / 4 % 16) (T / 64) M 0 S).cells _ _ HF.out); clear HB HG HF; have HB := T0; have HG := T1; have HF := T2; clear T0 T1 T2; generalize World.setRow _ _ _ = w5 at *)
      | (refine wpList_load_row rfl 25 (.tmp 5) rfl bF rfl 25 (Adf.mk (six xs 4) (six xs 10) (six xs 16) true v26 (T / 4 % 16) (T / 64) M 0 S).cells (0, 0) _ HF.out Tryd.underlying25 rfl sizeAdd ?_))
    cases hok : okAdd (Adf.mk (six xs 4) (six xs 10) (six xs 16) true v26 (T / 4 % 16) (T / 64) M 0 S)
    · refine (refAdd_no (Adf.mk (six xs 4) (six xs 10) (six xs 16) true v26 (T / 4 % 16) (T / 64) M 0 S) w5 hok).mono ?_
      rintro e w8 ⟨rfl, hB⟩
      have T0 := Lib.hid (HB.out.trans (hB.mono HB.out.size))
      have T1 := Lib.hid ((hB.block _ (lt_of_block HG.out)).trans HG.out)
      have T2 := Lib.hid ((hB.block _ (lt_of_block HF.out)).trans HF.out)
      clear hB
      clear HB HG HF
      have HB := T0
      have HG := T1
      have HF := T2
      clear T0 T1 T2
      have HEQ := Lib.hid (rdAdd_bad hb (by rw [HD.out, hok]; simp))
      go_wp2_with (refine wpList_store_row rfl 25 (.tmp 2) (.tmp 77) rfl w.heap.size a0.cells rfl rfl 25 a0.cells HG.out sizeAdd rfl (Adf.oneCell _) ?_; rw [setRow_same _ _ _ _ _ HG.out])
      refine bodyPost_ret (v := .tuple #[.agg a0.cells, .int .i64 102]) (results_cell_slot (p := 2) (q := 3) Tryd.results14 _ _ w.heap.size _ a0.cells _ _ rfl HG.out Tryd.underlying25 rfl sizeAdd) rfl ⟨by rw [HEQ.out.1, HEQ.out.2]; rfl, HB.out⟩
    · refine (refAdd_yes (Adf.mk (six xs 4) (six xs 10) (six xs 16) true v26 (T / 4 % 16) (T / 64) M 0 S) w5 hok).mono ?_
      rintro e w8 ⟨g, cap, rfl, hO, hB⟩
      have HY := Lib.hid (hO.row8 (all_wf (encAdd_len _) (HMEM.out hok)))
      clear hO
      have T0 := Lib.hid (HB.out.trans (hB.mono HB.out.size))
      have T1 := Lib.hid ((hB.block _ (lt_of_block HG.out)).trans HG.out)
      have T2 := Lib.hid ((hB.block _ (lt_of_block HF.out)).trans HF.out)
      clear hB
      clear HB HG HF
      have HB := T0
      have HG := T1
      have HF := T2
      clear T0 T1 T2
      go_wp2_with (fail)
      refine (same_any _ _ 33 c 33 cap xs (encAdd (Adf.mk (six xs 4) (six xs 10) (six xs 16) true v26 (T / 4 % 16) (T / 64) M 0 S)) w8 (HR.out.below HB.out) HY.out).mono ?_
      rintro e w7 ⟨rfl, m, rfl⟩
      have T0 := Lib.hid (below_drewN HB.out m)
      have T1 := Lib.hid (show (w8.drewN m).heap[w.heap.size]? = some (.cells a0.cells 25 (0, 0)) from HG.out)
      have T2 := Lib.hid (show (w8.drewN m).heap[bF]? = some (.cells (Adf.mk (six xs 4) (six xs 10) (six xs 16) true v26 (T / 4 % 16) (T / 64) M 0 S).cells 25 (0, 0)) from HF.out)
      clear HB HG HF
      have HB := T0
      have HG := T1
      have HF := T2
      clear T0 T1 T2
      generalize w8.drewN m = w8 at *
      cases hsm : sameB xs (encAdd (Adf.mk (six xs 4) (six xs 10) (six xs 16) true v26 (T / 4 % 16) (T / 64) M 0 S))
      · have HEQ := Lib.hid (rdAdd_bad hb (by rw [HD.out, hok, sameB_comm, hsm]; simp))
        go_wp2_with (refine wpList_store_row rfl 25 (.tmp 2) (.tmp 77) rfl w.heap.size a0.cells rfl rfl 25 a0.cells HG.out sizeAdd rfl (Adf.oneCell _) ?_; rw [setRow_same _ _ _ _ _ HG.out])
        refine bodyPost_ret (v := .tuple #[.agg a0.cells, .int .i64 102]) (results_cell_slot (p := 2) (q := 3) Tryd.results14 _ _ w.heap.size _ a0.cells _ _ rfl HG.out Tryd.underlying25 rfl sizeAdd) rfl ⟨by rw [HEQ.out.1, HEQ.out.2]; rfl, HB.out⟩
      · have HEQ := Lib.hid (rdAdd_good hb (by rw [HD.out, hok, sameB_comm, hsm]; simp))
        go_wp2_with (first | (refine wpList_load_row rfl 25 (.tmp 5) rfl bF rfl 25 (Adf.mk (six xs 4) (six xs 10) (six xs 16) true v26 (T / 4 % 16) (T / 64) M 0 S).cells (0, 0) _ HF.out Tryd.underlying25 rfl sizeAdd ?_) | (refine wpList_store_row rfl 25 (.tmp 2) (.tmp 78) rfl w.heap.size (Adf.mk (six xs 4) (six xs 10) (six xs 16) true v26 (T / 4 % 16) (T / 64) M 0 S).cells rfl rfl 25 a0.cells HG.out sizeAdd rfl (Adf.oneCell _) ?_))
        have HGz := Lib.hid (setRow_heap w8 w.heap.size a0.cells (Adf.mk (six xs 4) (six xs 10) (six xs 16) true v26 (T / 4 % 16) (T / 64) M 0 S).cells 25 (0, 0) HG.out)
        refine bodyPost_ret (v := .tuple #[.agg (Adf.mk (six xs 4) (six xs 10) (six xs 16) true v26 (T / 4 % 16) (T / 64) M 0 S).cells, .int .i64 0]) (results_cell_slot (p := 2) (q := 3) Tryd.results14 _ _ w.heap.size _ (Adf.mk (six xs 4) (six xs 10) (six xs 16) true v26 (T / 4 % 16) (T / 64) M 0 S).cells _ _ rfl HGz.out Tryd.underlying25 rfl sizeAdd) rfl ⟨by rw [HEQ.out.1, HEQ.out.2, HD.out]; rfl, below_setRow HB.out (Nat.le_refl _) _⟩
  refine wp_region_held_drew (S := fun w' => Below w1.heap.size w1 w') (by kernel_rfl) (Below.refl _ _).drew (fun hHeld => ?_)
  clear HG HB
  generalize World.drew w1 = w2 at *
  have HB2 := Lib.hid hHeld
  refine wpAnyH_take (i := 0) (v := ?_) rfl (by kernel_rfl) (by kernel_rfl) (by kernel_rfl) (fun _ _ _ h => h) (Or.inl ⟨by rfl, ?_⟩) (by assumption) ?_
  rotate_left
  · intro w hSw
    clear hSw
    go_simp
    try with_reducible rfl
  try simp only [Act.put, List.getElem_toArray, List.getElem_cons_zero, List.getElem_cons_succ, List.setIfInBounds_toArray, List.set_cons_zero, List.set_cons_succ]
  refine wpAnyH_take (i := 1) (v := ?_) rfl (by kernel_rfl) (by kernel_rfl) (by kernel_rfl) (fun _ _ _ h => h) (Or.inl ⟨by rfl, ?_⟩) (by assumption) ?_
  rotate_left
  · intro w hSw
    clear hSw
    go_simp
    try with_reducible rfl
  try simp only [Act.put, List.getElem_toArray, List.getElem_cons_zero, List.getElem_cons_succ, List.setIfInBounds_toArray, List.set_cons_zero, List.set_cons_succ]
  refine wpAnyH_take (i := 3) (v := ?_) rfl (by kernel_rfl) (by kernel_rfl) (by kernel_rfl) (fun _ _ _ h => h) (Or.inl ⟨by rfl, ?_⟩) (by assumption) ?_
  rotate_left
  · intro w hSw
    clear hSw
    go_simp
    try with_reducible rfl
  try simp only [Act.put, List.getElem_toArray, List.getElem_cons_zero, List.getElem_cons_succ, List.setIfInBounds_toArray, List.set_cons_zero, List.set_cons_succ]
  refine wpAnyH_take (i := 4) (v := ?_) rfl (by kernel_rfl) (by kernel_rfl) (by kernel_rfl) (fun _ _ _ h => h) (Or.inl ⟨by rfl, ?_⟩) (by assumption) ?_
  rotate_left
  · intro w hSw
    clear hSw
    go_simp
    try with_reducible rfl
  try simp only [Act.put, List.getElem_toArray, List.getElem_cons_zero, List.getElem_cons_succ, List.setIfInBounds_toArray, List.set_cons_zero, List.set_cons_succ]
  refine wpAnyH_take (i := 6) (v := ?_) rfl (by kernel_rfl) (by kernel_rfl) (by kernel_rfl) (fun _ _ _ h => h) (Or.inl ⟨by rfl, ?_⟩) (by assumption) ?_
  rotate_left
  · intro w hSw
    clear hSw
    go_simp
    try with_reducible rfl
  try simp only [Act.put, List.getElem_toArray, List.getElem_cons_zero, List.getElem_cons_succ, List.setIfInBounds_toArray, List.set_cons_zero, List.set_cons_succ]
  refine wpAnyH_take (i := 7) (v := ?_) rfl (by kernel_rfl) (by kernel_rfl) (by kernel_rfl) (fun _ _ _ h => h) (Or.inl ⟨by rfl, ?_⟩) (by assumption) ?_
  rotate_left
  · intro w hSw
    clear hSw
    go_simp
    try with_reducible rfl
  try simp only [Act.put, List.getElem_toArray, List.getElem_cons_zero, List.getElem_cons_succ, List.setIfInBounds_toArray, List.set_cons_zero, List.set_cons_succ]
  refine wpAnyH_take (i := 9) (v := ?_) rfl (by kernel_rfl) (by kernel_rfl) (by kernel_rfl) (fun _ _ _ h => h) (Or.inl ⟨by rfl, ?_⟩) (by assumption) ?_
  rotate_left
  · intro w hSw
    clear hSw
    go_simp
    try with_reducible rfl
  try simp only [Act.put, List.getElem_toArray, List.getElem_cons_zero, List.getElem_cons_succ, List.setIfInBounds_toArray, List.set_cons_zero, List.set_cons_succ]
  refine wpAnyH_take (i := 10) (v := ?_) rfl (by kernel_rfl) (by kernel_rfl) (by kernel_rfl) (fun _ _ _ h => h) (Or.inl ⟨by rfl, ?_⟩) (by assumption) ?_
  rotate_left
  · intro w hSw
    clear hSw
    go_simp
    try with_reducible rfl
  try simp only [Act.put, List.getElem_toArray, List.getElem_cons_zero, List.getElem_cons_succ, List.setIfInBounds_toArray, List.set_cons_zero, List.set_cons_succ]
  refine wpAnyH_take (i := 11) (v := ?_) rfl (by kernel_rfl) (by kernel_rfl) (by kernel_rfl) (fun _ _ _ h => h) (Or.inl ⟨by rfl, ?_⟩) (by assumption) ?_
  rotate_left
  · intro w hSw
    obtain ⟨e25, e26⟩ := HV.out w hSw
    clear hSw
    go_simp
    try with_reducible rfl
  try simp only [Act.put, List.getElem_toArray, List.getElem_cons_zero, List.getElem_cons_succ, List.setIfInBounds_toArray, List.set_cons_zero, List.set_cons_succ]
  refine wpAnyH_take (i := 12) (v := ?_) rfl (by kernel_rfl) (by kernel_rfl) (by kernel_rfl) (fun _ _ _ h => h) (Or.inl ⟨by rfl, ?_⟩) (by assumption) ?_
  rotate_left
  · intro w hSw
    clear hSw
    go_simp
    try with_reducible rfl
  try simp only [Act.put, List.getElem_toArray, List.getElem_cons_zero, List.getElem_cons_succ, List.setIfInBounds_toArray, List.set_cons_zero, List.set_cons_succ]
  refine wpAnyH_ready (rs := [2, 14]) (by kernel_rfl) (by simp) ?_
  refine AllReadyH.cons rfl (fun K hK => ?_) (AllReadyH.cons rfl (fun K hK => ?_) AllReadyH.nil)
  · go_simp
    refine (HS4.out _ HB2.out).mono ?_
    rintro e' w11 ⟨rfl, hb⟩
    have HB11 := Lib.hid (HB2.out.trans (hb.mono HB2.out.size))
    clear hb hHeld
    refine hK.out _ _ HB11.out (fun hHeld => ?_)
    clear hK K
    try simp only [Act.put, List.getElem_toArray, List.getElem_cons_zero, List.getElem_cons_succ, List.setIfInBounds_toArray, List.set_cons_zero, List.set_cons_succ]
    refine wpAnyH_ready (rs := [5, 14]) (by kernel_rfl) (by simp) ?_
    refine AllReadyH.cons rfl (fun K hK => ?_) (AllReadyH.cons rfl (fun K hK => ?_) AllReadyH.nil)
    · go_simp
      refine (HS10.out _ HB11.out).mono ?_
      rintro e' w13 ⟨rfl, hb⟩
      have HB13 := Lib.hid (HB11.out.trans (hb.mono HB11.out.size))
      clear hb hHeld
      refine hK.out _ _ HB13.out (fun hHeld => ?_)
      clear hK K
      try simp only [Act.put, List.getElem_toArray, List.getElem_cons_zero, List.getElem_cons_succ, List.setIfInBounds_toArray, List.set_cons_zero, List.set_cons_succ]
      refine wpAnyH_ready (rs := [8, 14]) (by kernel_rfl) (by simp) ?_
      refine AllReadyH.cons rfl (fun K hK => ?_) (AllReadyH.cons rfl (fun K hK => ?_) AllReadyH.nil)
      · go_simp
        refine (HS16.out _ HB13.out).mono ?_
        rintro e' w15 ⟨rfl, hb⟩
        have HB15 := Lib.hid (HB13.out.trans (hb.mono HB13.out.size))
        clear hb hHeld
        refine hK.out _ _ HB15.out (fun hHeld => ?_)
        clear hK K
        try simp only [Act.put, List.getElem_toArray, List.getElem_cons_zero, List.getElem_cons_succ, List.setIfInBounds_toArray, List.set_cons_zero, List.set_cons_succ]
        refine wpAnyH_take (i := 13) (v := .agg (Adf.mk (six xs 4) (six xs 10) (six xs 16) false v26 0 0 0 0 0).cells) rfl (by kernel_rfl) (by kernel_rfl) (by kernel_rfl) (fun _ _ _ h => h) (Or.inl ⟨by rfl, ?_⟩) (by assumption) ?_
        · intro w hSw
          clear hSw
          go_simp
        try simp only [Act.put, List.getElem_toArray, List.getElem_cons_zero, List.getElem_cons_succ, List.setIfInBounds_toArray, List.set_cons_zero, List.set_cons_succ]
        refine wpAnyH_ready (rs := [14]) (by kernel_rfl) (by simp) ?_
        refine AllReadyH.cons rfl (fun K hK => ?_) AllReadyH.nil
        have HZ17 := Lib.hid (heap_alloc_last w15 (.cells a0.cells 25))
        have HB17 := Lib.hid (HB15.out.alloc HB15.out.size (.cells a0.cells 25))
        have HE17 := Lib.hid (show w15.heap.size < (w15.alloc (.cells a0.cells 25)).heap.size by simp)
        have HGE := Lib.hid HB15.out.size
        clear hHeld
        go_simp
        refine hK.out _ _ HB17.out (fun hHeld => ?_)
        clear hK K
        dsimp only [a0, Adf.cells] at HZ17 HB17 HE17 hHeld
        generalize World.alloc w15 _ = w17 at *
        generalize w15.heap.size = h4 at *
        try simp only [Act.put, List.getElem_toArray, List.getElem_cons_zero, List.getElem_cons_succ, List.setIfInBounds_toArray, List.set_cons_zero, List.set_cons_succ]
        refine wpAnyH_ready (rs := [15]) (by kernel_rfl) (by simp) ?_
        refine AllReadyH.cons rfl (fun K hK => ?_) AllReadyH.nil
        rw [if_pos (by rfl)]
        refine wp_store_row _ _ _ rfl _ (Adf.mk (six xs 4) (six xs 10) (six xs 16) false v26 0 0 0 0 0).cells rfl rfl 25 a0.cells HZ17.out sizeAdd rfl (Adf.oneCell _) ?_
        have HBZ := Lib.hid (below_setRow HB17.out HGE.out (Adf.mk (six xs 4) (six xs 10) (six xs 16) false v26 0 0 0 0 0).cells)
        have HFZ := Lib.hid (setRow_heap _ _ _ (Adf.mk (six xs 4) (six xs 10) (six xs 16) false v26 0 0 0 0 0).cells _ _ HZ17.out)
        clear hHeld
        refine hK.out _ _ HBZ.out (fun hHeld => ?_)
        clear hK K hHeld
        refine wpAnyH_done (by kernel_rfl) ?_ _
        try simp only [Act.put, List.getElem_toArray, List.getElem_cons_zero, List.getElem_cons_succ, List.setIfInBounds_toArray, List.set_cons_zero, List.set_cons_succ]
        exact KEY _ _ HBZ HGE HFZ
      · have HZ16 := Lib.hid (heap_alloc_last w13 (.cells a0.cells 25))
        have HB16 := Lib.hid (HB13.out.alloc HB13.out.size (.cells a0.cells 25))
        have HE16 := Lib.hid (show w13.heap.size < (w13.alloc (.cells a0.cells 25)).heap.size by simp)
        have HGE := Lib.hid HB13.out.size
        clear hHeld
        go_simp
        refine hK.out _ _ HB16.out (fun hHeld => ?_)
        clear hK K
        dsimp only [a0, Adf.cells] at HZ16 HB16 HE16 hHeld
        generalize World.alloc w13 _ = w16 at *
        generalize w13.heap.size = h4 at *
        try simp only [Act.put, List.getElem_toArray, List.getElem_cons_zero, List.getElem_cons_succ, List.setIfInBounds_toArray, List.set_cons_zero, List.set_cons_succ]
        refine wpAnyH_ready (rs := [8]) (by kernel_rfl) (by simp) ?_
        refine AllReadyH.cons rfl (fun K hK => ?_) AllReadyH.nil
        go_simp
        refine (HS16.out _ HB16.out).mono ?_
        rintro e' w18 ⟨rfl, hb⟩
        have HB18 := Lib.hid (HB16.out.trans (hb.mono HB16.out.size))
        have HZ18 := Lib.hid ((hb.block _ HE16.out).trans HZ16.out)
        have HE18 := Lib.hid (Nat.lt_of_lt_of_le HE16.out hb.size)
        clear hb hHeld
        refine hK.out _ _ HB18.out (fun hHeld => ?_)
        clear hK K
        try simp only [Act.put, List.getElem_toArray, List.getElem_cons_zero, List.getElem_cons_succ, List.setIfInBounds_toArray, List.set_cons_zero, List.set_cons_succ]
        refine wpAnyH_take (i := 13) (v := .agg (Adf.mk (six xs 4) (six xs 10) (six xs 16) false v26 0 0 0 0 0).cells) rfl (by kernel_rfl) (by kernel_rfl) (by kernel_rfl) (fun _ _ _ h => h) (Or.inl ⟨by rfl, ?_⟩) (by assumption) ?_
        · intro w hSw
          clear hSw
          go_simp
        try simp only [Act.put, List.getElem_toArray, List.getElem_cons_zero, List.getElem_cons_succ, List.setIfInBounds_toArray, List.set_cons_zero, List.set_cons_succ]
        refine wpAnyH_ready (rs := [15]) (by kernel_rfl) (by simp) ?_
        refine AllReadyH.cons rfl (fun K hK => ?_) AllReadyH.nil
        rw [if_pos (by rfl)]
        refine wp_store_row _ _ _ rfl _ (Adf.mk (six xs 4) (six xs 10) (six xs 16) false v26 0 0 0 0 0).cells rfl rfl 25 a0.cells HZ18.out sizeAdd rfl (Adf.oneCell _) ?_
        have HBZ := Lib.hid (below_setRow HB18.out HGE.out (Adf.mk (six xs 4) (six xs 10) (six xs 16) false v26 0 0 0 0 0).cells)
        have HFZ := Lib.hid (setRow_heap _ _ _ (Adf.mk (six xs 4) (six xs 10) (six xs 16) false v26 0 0 0 0 0).cells _ _ HZ18.out)
        clear hHeld
        refine hK.out _ _ HBZ.out (fun hHeld => ?_)
        clear hK K hHeld
        refine wpAnyH_done (by kernel_rfl) ?_ _
        try simp only [Act.put, List.getElem_toArray, List.getElem_cons_zero, List.getElem_cons_succ, List.setIfInBounds_toArray, List.set_cons_zero, List.set_cons_succ]
        exact KEY _ _ HBZ HGE HFZ
    · have HZ14 := Lib.hid (heap_alloc_last w11 (.cells a0.cells 25))
      have HB14 := Lib.hid (HB11.out.alloc HB11.out.size (.cells a0.cells 25))
      have HE14 := Lib.hid (show w11.heap.size < (w11.alloc (.cells a0.cells 25)).heap.size by simp)
      have HGE := Lib.hid HB11.out.size
      clear hHeld
      go_simp
      refine hK.out _ _ HB14.out (fun hHeld => ?_)
      clear hK K
      dsimp only [a0, Adf.cells] at HZ14 HB14 HE14 hHeld
      generalize World.alloc w11 _ = w14 at *
      generalize w11.heap.size = h4 at *
      try simp only [Act.put, List.getElem_toArray, List.getElem_cons_zero, List.getElem_cons_succ, List.setIfInBounds_toArray, List.set_cons_zero, List.set_cons_succ]
      refine wpAnyH_ready (rs := [5]) (by kernel_rfl) (by simp) ?_
      refine AllReadyH.cons rfl (fun K hK => ?_) AllReadyH.nil
      go_simp
      refine (HS10.out _ HB14.out).mono ?_
      rintro e' w19 ⟨rfl, hb⟩
      have HB19 := Lib.hid (HB14.out.trans (hb.mono HB14.out.size))
      have HZ19 := Lib.hid ((hb.block _ HE14.out).trans HZ14.out)
      have HE19 := Lib.hid (Nat.lt_of_lt_of_le HE14.out hb.size)
      clear hb hHeld
      refine hK.out _ _ HB19.out (fun hHeld => ?_)
      clear hK K
      try simp only [Act.put, List.getElem_toArray, List.getElem_cons_zero, List.getElem_cons_succ, List.setIfInBounds_toArray, List.set_cons_zero, List.set_cons_succ]
      refine wpAnyH_ready (rs := [8]) (by kernel_rfl) (by simp) ?_
      refine AllReadyH.cons rfl (fun K hK => ?_) AllReadyH.nil
      go_simp
      refine (HS16.out _ HB19.out).mono ?_
      rintro e' w20 ⟨rfl, hb⟩
      have HB20 := Lib.hid (HB19.out.trans (hb.mono HB19.out.size))
      have HZ20 := Lib.hid ((hb.block _ HE19.out).trans HZ19.out)
      have HE20 := Lib.hid (Nat.lt_of_lt_of_le HE19.out hb.size)
      clear hb hHeld
      refine hK.out _ _ HB20.out (fun hHeld => ?_)
      clear hK K
      try simp only [Act.put, List.getElem_toArray, List.getElem_cons_zero, List.getElem_cons_succ, List.setIfInBounds_toArray, List.set_cons_zero, List.set_cons_succ]
      refine wpAnyH_take (i := 13) (v := .agg (Adf.mk (six xs 4) (six xs 10) (six xs 16) false v26 0 0 0 0 0).cells) rfl (by kernel_rfl) (by kernel_rfl) (by kernel_rfl) (fun _ _ _ h => h) (Or.inl ⟨by rfl, ?_⟩) (by assumption) ?_
      · intro w hSw
        clear hSw
        go_simp
      try simp only [Act.put, List.getElem_toArray, List.getElem_cons_zero, List.getElem_cons_succ, List.setIfInBounds_toArray, List.set_cons_zero, List.set_cons_succ]
      refine wpAnyH_ready (rs := [15]) (by kernel_rfl) (by simp) ?_
      refine AllReadyH.cons rfl (fun K hK => ?_) AllReadyH.nil
      rw [if_pos (by rfl)]
      refine wp_store_row _ _ _ rfl _ (Adf.mk (six xs 4) (six xs 10) (six xs 16) false v26 0 0 0 0 0).cells rfl rfl 25 a0.cells HZ20.out sizeAdd rfl (Adf.oneCell _) ?_
      have HBZ := Lib.hid (below_setRow HB20.out HGE.out (Adf.mk (six xs 4) (six xs 10) (six xs 16) false v26 0 0 0 0 0).cells)
      have HFZ := Lib.hid (setRow_heap _ _ _ (Adf.mk (six xs 4) (six xs 10) (six xs 16) false v26 0 0 0 0 0).cells _ _ HZ20.out)
      clear hHeld
      refine hK.out _ _ HBZ.out (fun hHeld => ?_)
      clear hK K hHeld
      refine wpAnyH_done (by kernel_rfl) ?_ _
      try simp only [Act.put, List.getElem_toArray, List.getElem_cons_zero, List.getElem_cons_succ, List.setIfInBounds_toArray, List.set_cons_zero, List.set_cons_succ]
      exact KEY _ _ HBZ HGE HFZ
  · have HZ12 := Lib.hid (heap_alloc_last w2 (.cells a0.cells 25))
    have HB12 := Lib.hid (HB2.out.alloc HB2.out.size (.cells a0.cells 25))
    have HE12 := Lib.hid (show w2.heap.size < (w2.alloc (.cells a0.cells 25)).heap.size by simp)
    have HGE := Lib.hid HB2.out.size
    clear hHeld
    go_simp
    refine hK.out _ _ HB12.out (fun hHeld => ?_)
    clear hK K
    dsimp only [a0, Adf.cells] at HZ12 HB12 HE12 hHeld
    generalize World.alloc w2 _ = w12 at *
    generalize w2.heap.size = h4 at *
    try simp only [Act.put, List.getElem_toArray, List.getElem_cons_zero, List.getElem_cons_succ, List.setIfInBounds_toArray, List.set_cons_zero, List.set_cons_succ]
    refine wpAnyH_ready (rs := [2]) (by kernel_rfl) (by simp) ?_
    refine AllReadyH.cons rfl (fun K hK => ?_) AllReadyH.nil
    go_simp
    refine (HS4.out _ HB12.out).mono ?_
    rintro e' w21 ⟨rfl, hb⟩
    have HB21 := Lib.hid (HB12.out.trans (hb.mono HB12.out.size))
    have HZ21 := Lib.hid ((hb.block _ HE12.out).trans HZ12.out)
    have HE21 := Lib.hid (Nat.lt_of_lt_of_le HE12.out hb.size)
    clear hb hHeld
    refine hK.out _ _ HB21.out (fun hHeld => ?_)
    clear hK K
    try simp only [Act.put, List.getElem_toArray, List.getElem_cons_zero, List.getElem_cons_succ, List.setIfInBounds_toArray, List.set_cons_zero, List.set_cons_succ]
    refine wpAnyH_ready (rs := [5]) (by kernel_rfl) (by simp) ?_
    refine AllReadyH.cons rfl (fun K hK => ?_) AllReadyH.nil
    go_simp
    refine (HS10.out _ HB21.out).mono ?_
    rintro e' w22 ⟨rfl, hb⟩
    have HB22 := Lib.hid (HB21.out.trans (hb.mono HB21.out.size))
    have HZ22 := Lib.hid ((hb.block _ HE21.out).trans HZ21.out)
    have HE22 := Lib.hid (Nat.lt_of_lt_of_le HE21.out hb.size)
    clear hb hHeld
    refine hK.out _ _ HB22.out (fun hHeld => ?_)
    clear hK K
    try simp only [Act.put, List.getElem_toArray, List.getElem_cons_zero, List.getElem_cons_succ, List.setIfInBounds_toArray, List.set_cons_zero, List.set_cons_succ]
    refine wpAnyH_ready (rs := [8]) (by kernel_rfl) (by simp) ?_
    refine AllReadyH.cons rfl (fun K hK => ?_) AllReadyH.nil
    go_simp
    refine (HS16.out _ HB22.out).mono ?_
    rintro e' w23 ⟨rfl, hb⟩
    have HB23 := Lib.hid (HB22.out.trans (hb.mono HB22.out.size))
    have HZ23 := Lib.hid ((hb.block _ HE22.out).trans HZ22.out)
    have HE23 := Lib.hid (Nat.lt_of_lt_of_le HE22.out hb.size)
    clear hb hHeld
    refine hK.out _ _ HB23.out (fun hHeld => ?_)
    clear hK K
    try simp only [Act.put, List.getElem_toArray, List.getElem_cons_zero, List.getElem_cons_succ, List.setIfInBounds_toArray, List.set_cons_zero, List.set_cons_succ]
    refine wpAnyH_take (i := 13) (v := .agg (Adf.mk (six xs 4) (six xs 10) (six xs 16) false v26 0 0 0 0 0).cells) rfl (by kernel_rfl) (by kernel_rfl) (by kernel_rfl) (fun _ _ _ h => h) (Or.inl ⟨by rfl, ?_⟩) (by assumption) ?_
    · intro w hSw
      clear hSw
      go_simp
    try simp only [Act.put, List.getElem_toArray, List.getElem_cons_zero, List.getElem_cons_succ, List.setIfInBounds_toArray, List.set_cons_zero, List.set_cons_succ]
    refine wpAnyH_ready (rs := [15]) (by kernel_rfl) (by simp) ?_
    refine AllReadyH.cons rfl (fun K hK => ?_) AllReadyH.nil
    rw [if_pos (by rfl)]
    refine wp_store_row _ _ _ rfl _ (Adf.mk (six xs 4) (six xs 10) (six xs 16) false v26 0 0 0 0 0).cells rfl rfl 25 a0.cells HZ23.out sizeAdd rfl (Adf.oneCell _) ?_
    have HBZ := Lib.hid (below_setRow HB23.out HGE.out (Adf.mk (six xs 4) (six xs 10) (six xs 16) false v26 0 0 0 0 0).cells)
    have HFZ := Lib.hid (setRow_heap _ _ _ (Adf.mk (six xs 4) (six xs 10) (six xs 16) false v26 0 0 0 0 0).cells _ _ HZ23.out)
    clear hHeld
    refine hK.out _ _ HBZ.out (fun hHeld => ?_)
    clear hK K hHeld
    refine wpAnyH_done (by kernel_rfl) ?_ _
    try simp only [Act.put, List.getElem_toArray, List.getElem_cons_zero, List.getElem_cons_succ, List.setIfInBounds_toArray, List.set_cons_zero, List.set_cons_succ]
    exact KEY _ _ HBZ HGE HFZ
set_option maxRecDepth 100000 in
set_option maxHeartbeats 8000000 in
theorem refReadAdd_ask (A : Option Addr) (n c : Nat) (xs : List Int) (w : World) (h : RowB .u8 w A n xs) (hnc : n ≤ c) (hb : begA xs n 33 [0, 1] = 0) (h25 : xs.getD 25 0 = 0) :
    Calls Tryd.prog 14 #[.slice A n c] w fun e w' => e = .returned (.tuple #[(outAdd xs n).val, .int .i64 (rdAdd xs n : Nat)]) ∧ Below w.heap.size w w' := by
  have hq := begA_fine hb
  have hn1 : n = 33 := by omega
  subst hn1
  have HB := Lib.hid ((Below.refl w.heap.size w).alloc (Nat.le_refl _) (.cells a0.cells 25))
  have HR := Lib.hid h
  have HC := Lib.hid (session_any A 33 c xs 0 1 33 [0, 1] _ (h.below HB.out) between01)
  rw [hb] at HC
  have HG := Lib.hid (heap_alloc_last w (.cells a0.cells 25))
  have HSZ := Lib.hid (show w.heap.size < (w.alloc (.cells a0.cells 25)).heap.size by simp)
  have HW := Lib.hid (show ∀ i, i < 33 → 0 ≤ xs.getD i 0 ∧ xs.getD i 0 ≤ 255 from fun i hi => h.wf8 i hi)
  obtain ⟨b, off, rfl, -⟩ := HR.out.cells (by omega)
  have hnc' : (33 : Int) ≤ (c : Int) := by omega
  obtain ⟨p0, p1⟩ := numAt_wf HR.out 27 (by omega)
  obtain ⟨q0, q1⟩ := numAt_wf HR.out 29 (by omega)
  obtain ⟨r0, r1⟩ := numAt_wf HR.out 31 (by omega)
  obtain ⟨v0, v1⟩ := HW.out 26 (by omega)
  have HD := Lib.hid (show decAdd xs = ⟨six xs 4, six xs 10, six xs 16, false, xs.getD 26 0, numAt xs 27 / 4 % 16, numAt xs 27 / 64, numAt xs 29, numAt xs 31 / 16, 0⟩ by unfold decAdd; rw [if_neg (by omega), show numAt xs 27 % 64 / 4 = numAt xs 27 / 4 % 16 by omega])
  have HMEM := Lib.hid (fun hok => encAdd_mem (q := ⟨six xs 4, six xs 10, six xs 16, false, xs.getD 26 0, numAt xs 27 / 4 % 16, numAt xs 27 / 64, numAt xs 29, numAt xs 31 / 16, 0⟩) (six_wf 4 (by omega) HW.out) (six_wf 10 (by omega) HW.out) (six_wf 16 (by omega) HW.out) hok)
  have HV0 := Lib.hid (show w.cell? ⟨b, off + 25, none⟩ = some (.int .u8 0) ∧ w.cell? ⟨b, off + 26, none⟩ = some (.int .u8 (xs.getD 26 0)) from ⟨by rw [← h25]; exact HR.out.at_ 25 (by omega), HR.out.at_ 26 (by omega)⟩)
  generalize xs.getD 26 0 = v26 at *
  generalize hn27 : numAt xs 27 = T at *
  have HV27 := Lib.hid hn27
  clear hn27
  generalize hn29 : numAt xs 29 = M at *
  have HV29 := Lib.hid hn29
  clear hn29
  generalize hn31 : numAt xs 31 = U at *
  have HV31 := Lib.hid hn31
  clear hn31
  have x0 : IntKind.i64.wrap v26 = v26 := IntWalk.i64_in _ ⟨by omega, by omega⟩
  have x1 : IntKind.i64.wrap (T.tdiv 4) = T / 4 := by rw [Int.tdiv_eq_ediv_of_nonneg (by omega)]; exact IntWalk.i64_in _ ⟨by omega, by omega⟩
  have x2 : IntKind.i64.wrap (T.tdiv 64) = T / 64 := by rw [Int.tdiv_eq_ediv_of_nonneg (by omega)]; exact IntWalk.i64_in _ ⟨by omega, by omega⟩
  have x4 : (0 : Int) ≤ T / 4 := by omega
  have x3 : IntKind.i64.wrap (U.tdiv 16) = U / 16 := by rw [Int.tdiv_eq_ediv_of_nonneg (by omega)]; exact IntWalk.i64_in _ ⟨by omega, by omega⟩
  have d4 : (c = 4) = False := by simp; omega
  have d10 : (c = 10) = False := by simp; omega
  have d16 : (c = 16) = False := by simp; omega
  have d27 : (c = 27) = False := by simp; omega
  have d29 : (c = 29) = False := by simp; omega
  have d31 : (c = 31) = False := by simp; omega
  clear h hq
  go_enter Tryd.func14, Tryd.ntmps14
  go_wp2_with (fail)
  refine HC.out.mono ?_
  rintro e w2 ⟨rfl, rfl⟩
  generalize w.alloc (.cells a0.cells 25) = w1 at *
  clear HC
  have HS4 := Lib.hid (show ∀ w' : World, Below w1.heap.size w1 w' → Calls Tryd.prog 34 #[.slice (some ⟨b, off + 4, none⟩) (33 - 4) (c - 4)] w' fun e w'' => e = .returned (six xs 4).val ∧ Below w'.heap.size w' w'' from
    fun w' hb => six_off 4 b off 33 c xs w' (HR.out.below (HB.out.trans (hb.mono HB.out.size))) (by omega))
  have HS10 := Lib.hid (show ∀ w' : World, Below w1.heap.size w1 w' → Calls Tryd.prog 34 #[.slice (some ⟨b, off + 10, none⟩) (33 - 10) (c - 10)] w' fun e w'' => e = .returned (six xs 10).val ∧ Below w'.heap.size w' w'' from
    fun w' hb => six_off 10 b off 33 c xs w' (HR.out.below (HB.out.trans (hb.mono HB.out.size))) (by omega))
  have HS16 := Lib.hid (show ∀ w' : World, Below w1.heap.size w1 w' → Calls Tryd.prog 34 #[.slice (some ⟨b, off + 16, none⟩) (33 - 16) (c - 16)] w' fun e w'' => e = .returned (six xs 16).val ∧ Below w'.heap.size w' w'' from
    fun w' hb => six_off 16 b off 33 c xs w' (HR.out.below (HB.out.trans (hb.mono HB.out.size))) (by omega))
  have HV := Lib.hid (show ∀ w' : World, Below w1.heap.size w1 w' → w'.cell? ⟨b, off + 25, none⟩ = some (.int .u8 0) ∧ w'.cell? ⟨b, off + 26, none⟩ = some (.int .u8 v26) from
    fun w' hb => ⟨below_at (HB.out.trans (hb.mono HB.out.size)) HV0.out.1, below_at (HB.out.trans (hb.mono HB.out.size)) HV0.out.2⟩)
  go_wp2
  rename_i h9 K9 a9
  have KEY : ∀ (w5 : World) (h4 : Nat), Hid (Below w1.heap.size w1 w5) → Hid (w1.heap.size ≤ h4) → Hid (w5.heap[h4]? = some (.cells (Adf.mk (six xs 4) (six xs 10) (six xs 16) false v26 0 0 0 0 0).cells 25 (0, 0))) → Exit.then K9 (bodyPost Tryd.prog Tryd.f14 fun e w' => e = .returned (.tuple #[(outAdd xs 33).val, .int .i64 (rdAdd xs 33 : Nat)]) ∧ Below w.heap.size w w') .normal { tmps := #[.slice (some ⟨b, off, none⟩) 33 c, undef, .pointer (some ⟨w.heap.size, 0, none⟩), .int .i64 0, .int .i64 0, .pointer (some ⟨h4, 0, none⟩), undef, undef, undef, .slice (some ⟨b, off, none⟩) 33 c, .int .i64 0, .int .i64 0, .bool false, undef, undef, .slice (some ⟨b, off, none⟩) 33 c, .slice (some ⟨b, off + 4, none⟩) (33 - 4) (c - 4), .agg (six xs 4).cells, .slice (some ⟨b, off, none⟩) 33 c, .slice (some ⟨b, off + 10, none⟩) (33 - 10) (c - 10), .agg (six xs 10).cells, .slice (some ⟨b, off, none⟩) 33 c, .slice (some ⟨b, off + 16, none⟩) (33 - 16) (c - 16), .agg (six xs 16).cells, .slice (some ⟨b, off, none⟩) 33 c, .pointer (some ⟨b, off + 26, none⟩), .int .u8 v26, .int .i64 v26, .agg (Adf.mk (six xs 4) (six xs 10) (six xs 16) false v26 0 0 0 0 0).cells, undef, undef, undef, undef, undef, undef, undef, undef, undef, undef, undef, undef, undef, undef, undef, undef, undef, undef, undef, undef, undef, undef, undef, undef, undef, undef, undef, undef, undef, undef, undef, undef, undef, undef, undef, undef, undef, undef, undef, undef, undef, undef, undef, undef, undef, undef, undef, undef, undef, undef], defers := [] } w5 := by
    intro w5 bF HB5 HH5 HF
    have HLh := Lib.hid (Nat.lt_of_lt_of_le HSZ.out HH5.out)
    have T0 := Lib.hid (HB.out.trans (HB5.out.mono HB.out.size))
    have T1 := Lib.hid ((HB5.out.block _ HSZ.out).trans HG.out)
    clear HB5 HH5
    clear HB HG
    have HB := T0
    have HG := T1
    clear T0 T1
    have e25 := below_at HB.out HV0.out.1
    go_wp2_with (fail)
    refine (num_off 27 b off 33 c xs w5 (HR.out.below HB.out) (by omega)).mono ?_
    rintro e w6 ⟨rfl, hB⟩
    rw [HV27.out]
    have T0 := Lib.hid (HB.out.trans (hB.mono HB.out.size))
    have T1 := Lib.hid ((hB.block _ (lt_of_block HG.out)).trans HG.out)
    have T2 := Lib.hid ((hB.block _ (lt_of_block HF.out)).trans HF.out)
    clear hB
    clear HB HG HF
    have HB := T0
    have HG := T1
    have HF := T2
    clear T0 T1 T2
    generalize w6 = w5 at *
    go_wp2_with (fail)
    refine (num_off 29 b off 33 c xs w5 (HR.out.below HB.out) (by omega)).mono ?_
    rintro e w6 ⟨rfl, hB⟩
    rw [HV29.out]
    have T0 := Lib.hid (HB.out.trans (hB.mono HB.out.size))
    have T1 := Lib.hid ((hB.block _ (lt_of_block HG.out)).trans HG.out)
    have T2 := Lib.hid ((hB.block _ (lt_of_block HF.out)).trans HF.out)
    clear hB
    clear HB HG HF
    have HB := T0
    have HG := T1
    have HF := T2
    clear T0 T1 T2
    generalize w6 = w5 at *
    go_wp2_with ((refine wpList_store_into rfl 3 (.tmp 51) (.tmp 50) rfl bF 22 (.int .i64 M) rfl rfl rfl 25 (Adf.mk (six xs 4) (six xs 10) (six xs 16) false v26 0 0 0 0 0).cells (Adf.mk (six xs 4) (six xs 10) (six xs 16) false v26 0 0 M 0 0).cells HF.out sizeI64 (show 22 < 25 by decide) rfl ?_; have T0 := Lib.hid (below_setRow HB.out (Nat.le_of_lt HLh.out) (Adf.mk (six xs 4) (six xs 10) (six xs 16) false v26 0 0 M 0 0).cells); have T1 := Lib.hid ((setRow_other _ bF w.heap.size (Adf.mk (six xs 4) (six xs 10) (six xs 16) false v26 0 0 M 0 0).cells (Nat.ne_of_lt HLh.out)).trans HG.out); have T2 := Lib.hid (setRow_heap _ bF _ (Adf.mk (six xs 4) (six xs 10) (six xs 16) false v26 0 0 M 0 0).cells _ _ HF.out); clear HB HG HF; have HB := T0; have HG := T1; have HF := T2; clear T0 T1 T2; generalize World.setRow _ _ _ = w5 at *))
    refine (num_off 31 b off 33 c xs w5 (HR.out.below HB.out) (by omega)).mono ?_
    rintro e w6 ⟨rfl, hB⟩
    rw [HV31.out]
    have T0 := Lib.hid (HB.out.trans (hB.mono HB.out.size))
    have T1 := Lib.hid ((hB.block _ (lt_of_block HG.out)).trans HG.out)
    have T2 := Lib.hid ((hB.block _ (lt_of_block HF.out)).trans HF.out)
    clear hB
    clear HB HG HF
    have HB := T0
    have HG := T1
    have HF := T2
    clear T0 T1 T2
    generalize w6 = w5 at *
    go_wp2_with (first
      | (refine wpList_store_into rfl 3 (.tmp 56) (.tmp 55) rfl bF 23 (.int .i64 (U / 16)) rfl rfl rfl 25 (Adf.mk (six xs 4) (six xs 10) (six xs 16) false v26 0 0 M 0 0).cells (Adf.mk (six xs 4) (six xs 10) (six xs 16) false v26 0 0 M (U / 16) 0).cells HF.out sizeI64 (show 23 < 25 by decide) rfl ?_; have T0 := Lib.hid (below_setRow HB.out (Nat.le_of_lt HLh.out) (Adf.mk (six xs 4) (six xs 10) (six xs 16) false v26 0 0 M (U / 16) 0).cells); have T1 := Lib.hid ((setRow_other _ bF w.heap.size (Adf.mk (six xs 4) (six xs 10) (six xs 16) false v26 0 0 M (U / 16) 0).cells (Nat.ne_of_lt HLh.out)).trans HG.out); have T2 := Lib.hid (setRow_heap _ bF _ (Adf.mk (six xs 4) (six xs 10) (six xs 16) false v26 0 0 M (U / 16) 0).cells _ _ HF.out); clear HB HG HF; have HB := T0; have HG := T1; have HF := T2; clear T0 T1 T2; generalize World.setRow _ _ _ = w5 at *)
      | (refine wpList_store_into rfl 3 (.tmp 60) (.tmp 59) rfl bF 20 (.int .i64 (T / 4 % 16)) rfl rfl rfl 25 (Adf.mk (six xs 4) (six xs 10) (six xs 16) false v26 0 0 M (U / 16) 0).cells (Adf.mk (six xs 4) (six xs 10) (six xs 16) false v26 (T / 4 % 16) 0 M (U / 16) 0).cells HF.out sizeI64 (show 20 < 25 by decide) rfl ?_; have T0 := Lib.hid (below_setRow HB.out (Nat.le_of_lt HLh.out) (Adf.mk (six xs 4) (six xs 10) (six xs 16) false v26 (T / 4 % 16) 0 M (U / 16) 0).cells); have T1 := Lib.hid ((setRow_other _ bF w.heap.size (Adf.mk (six xs 4) (six xs 10) (six xs 16) false v26 (T / 4 % 16) 0 M (U / 16) 0).cells (Nat.ne_of_lt HLh.out)).trans HG.out); have T2 := Lib.hid (setRow_heap _ bF _ (Adf.mk (six xs 4) (six xs 10) (six xs 16) false v26 (T / 4 % 16) 0 M (U / 16) 0).cells _ _ HF.out); clear HB HG HF; have HB := T0; have HG := T1; have HF := T2; clear T0 T1 T2; generalize World.setRow _ _ _ = w5 at *)
      | (refine wpList_store_into rfl 3 (.tmp 63) (.tmp 62) rfl bF 21 (.int .i64 (T / 64)) rfl rfl rfl 25 (Adf.mk (six xs 4) (six xs 10) (six xs 16) false v26 (T / 4 % 16) 0 M (U / 16) 0).cells (Adf.mk (six xs 4) (six xs 10) (six xs 16) false v26 (T / 4 % 16) (T / 64) M (U / 16) 0).cells HF.out sizeI64 (show 21 < 25 by decide) rfl ?_; have T0 := Lib.hid (below_setRow HB.out (Nat.le_of_lt HLh.out) (Adf.mk (six xs 4) (six xs 10) (six xs 16) false v26 (T / 4 % 16) (T / 64) M (U / 16) 0).cells); have T1 := Lib.hid ((setRow_other _ bF w.heap.size (Adf.mk (six xs 4) (six xs 10) (six xs 16) false v26 (T / 4 % 16) (T / 64) M (U / 16) 0).cells (Nat.ne_of_lt HLh.out)).trans HG.out); have T2 := Lib.hid (setRow_heap _ bF _ (Adf.mk (six xs 4) (six xs 10) (six xs 16) false v26 (T / 4 % 16) (T / 64) M (U / 16) 0).cells _ _ HF.out); clear HB HG HF; have HB := T0; have HG := T1; have HF := T2; clear T0 T1 T2; generalize World.setRow _ _ _ = w5 at *)
      | (refine wpList_load_row rfl 25 (.tmp 5) rfl bF rfl 25 (Adf.mk (six xs 4) (six xs 10) (six xs 16) false v26 (T / 4 % 16) (T / 64) M (U / 16) 0).cells (0, 0) _ HF.out Tryd.underlying25 rfl sizeAdd ?_))
    cases hok : okAdd (Adf.mk (six xs 4) (six xs 10) (six xs 16) false v26 (T / 4 % 16) (T / 64) M (U / 16) 0)
    · refine (refAdd_no (Adf.mk (six xs 4) (six xs 10) (six xs 16) false v26 (T / 4 % 16) (T / 64) M (U / 16) 0) w5 hok).mono ?_
      rintro e w8 ⟨rfl, hB⟩
      have T0 := Lib.hid (HB.out.trans (hB.mono HB.out.size))
      have T1 := Lib.hid ((hB.block _ (lt_of_block HG.out)).trans HG.out)
      have T2 := Lib.hid ((hB.block _ (lt_of_block HF.out)).trans HF.out)
      clear hB
      clear HB HG HF
      have HB := T0
      have HG := T1
      have HF := T2
      clear T0 T1 T2
      have HEQ := Lib.hid (rdAdd_bad hb (by rw [HD.out, hok]; simp))
      go_wp2_with (refine wpList_store_row rfl 25 (.tmp 2) (.tmp 77) rfl w.heap.size a0.cells rfl rfl 25 a0.cells HG.out sizeAdd rfl (Adf.oneCell _) ?_; rw [setRow_same _ _ _ _ _ HG.out])
      refine bodyPost_ret (v := .tuple #[.agg a0.cells, .int .i64 102]) (results_cell_slot (p := 2) (q := 3) Tryd.results14 _ _ w.heap.size _ a0.cells _ _ rfl HG.out Tryd.underlying25 rfl sizeAdd) rfl ⟨by rw [HEQ.out.1, HEQ.out.2]; rfl, HB.out⟩
    · refine (refAdd_yes (Adf.mk (six xs 4) (six xs 10) (six xs 16) false v26 (T / 4 % 16) (T / 64) M (U / 16) 0) w5 hok).mono ?_
      rintro e w8 ⟨g, cap, rfl, hO, hB⟩
      have HY := Lib.hid (hO.row8 (all_wf (encAdd_len _) (HMEM.out hok)))
      clear hO
      have T0 := Lib.hid (HB.out.trans (hB.mono HB.out.size))
      have T1 := Lib.hid ((hB.block _ (lt_of_block HG.out)).trans HG.out)
      have T2 := Lib.hid ((hB.block _ (lt_of_block HF.out)).trans HF.out)
      clear hB
      clear HB HG HF
      have HB := T0
      have HG := T1
      have HF := T2
      clear T0 T1 T2
      go_wp2_with (fail)
      refine (same_any _ _ 33 c 33 cap xs (encAdd (Adf.mk (six xs 4) (six xs 10) (six xs 16) false v26 (T / 4 % 16) (T / 64) M (U / 16) 0)) w8 (HR.out.below HB.out) HY.out).mono ?_
      rintro e w7 ⟨rfl, m, rfl⟩
      have T0 := Lib.hid (below_drewN HB.out m)
      have T1 := Lib.hid (show (w8.drewN m).heap[w.heap.size]? = some (.cells a0.cells 25 (0, 0)) from HG.out)
      have T2 := Lib.hid (show (w8.drewN m).heap[bF]? = some (.cells (Adf.mk (six xs 4) (six xs 10) (six xs 16) false v26 (T / 4 % 16) (T / 64) M (U / 16) 0).cells 25 (0, 0)) from HF.out)
      clear HB HG HF
      have HB := T0
      have HG := T1
      have HF := T2
      clear T0 T1 T2
      generalize w8.drewN m = w8 at *
      cases hsm : sameB xs (encAdd (Adf.mk (six xs 4) (six xs 10) (six xs 16) false v26 (T / 4 % 16) (T / 64) M (U / 16) 0))
      · have HEQ := Lib.hid (rdAdd_bad hb (by rw [HD.out, hok, sameB_comm, hsm]; simp))
        go_wp2_with (refine wpList_store_row rfl 25 (.tmp 2) (.tmp 77) rfl w.heap.size a0.cells rfl rfl 25 a0.cells HG.out sizeAdd rfl (Adf.oneCell _) ?_; rw [setRow_same _ _ _ _ _ HG.out])
        refine bodyPost_ret (v := .tuple #[.agg a0.cells, .int .i64 102]) (results_cell_slot (p := 2) (q := 3) Tryd.results14 _ _ w.heap.size _ a0.cells _ _ rfl HG.out Tryd.underlying25 rfl sizeAdd) rfl ⟨by rw [HEQ.out.1, HEQ.out.2]; rfl, HB.out⟩
      · have HEQ := Lib.hid (rdAdd_good hb (by rw [HD.out, hok, sameB_comm, hsm]; simp))
        go_wp2_with (first | (refine wpList_load_row rfl 25 (.tmp 5) rfl bF rfl 25 (Adf.mk (six xs 4) (six xs 10) (six xs 16) false v26 (T / 4 % 16) (T / 64) M (U / 16) 0).cells (0, 0) _ HF.out Tryd.underlying25 rfl sizeAdd ?_) | (refine wpList_store_row rfl 25 (.tmp 2) (.tmp 78) rfl w.heap.size (Adf.mk (six xs 4) (six xs 10) (six xs 16) false v26 (T / 4 % 16) (T / 64) M (U / 16) 0).cells rfl rfl 25 a0.cells HG.out sizeAdd rfl (Adf.oneCell _) ?_))
        have HGz := Lib.hid (setRow_heap w8 w.heap.size a0.cells (Adf.mk (six xs 4) (six xs 10) (six xs 16) false v26 (T / 4 % 16) (T / 64) M (U / 16) 0).cells 25 (0, 0) HG.out)
        refine bodyPost_ret (v := .tuple #[.agg (Adf.mk (six xs 4) (six xs 10) (six xs 16) false v26 (T / 4 % 16) (T / 64) M (U / 16) 0).cells, .int .i64 0]) (results_cell_slot (p := 2) (q := 3) Tryd.results14 _ _ w.heap.size _ (Adf.mk (six xs 4) (six xs 10) (six xs 16) false v26 (T / 4 % 16) (T / 64) M (U / 16) 0).cells _ _ rfl HGz.out Tryd.underlying25 rfl sizeAdd) rfl ⟨by rw [HEQ.out.1, HEQ.out.2, HD.out]; rfl, below_setRow HB.out (Nat.le_refl _) _⟩
  refine wp_region_held_drew (S := fun w' => Below w1.heap.size w1 w') (by kernel_rfl) (Below.refl _ _).drew (fun hHeld => ?_)
  clear HG HB
  generalize World.drew w1 = w2 at *
  have HB2 := Lib.hid hHeld
  refine wpAnyH_take (i := 0) (v := ?_) rfl (by kernel_rfl) (by kernel_rfl) (by kernel_rfl) (fun _ _ _ h => h) (Or.inl ⟨by rfl, ?_⟩) (by assumption) ?_
  rotate_left
  · intro w hSw
    clear hSw
    go_simp
    try with_reducible rfl
  try simp only [Act.put, List.getElem_toArray, List.getElem_cons_zero, List.getElem_cons_succ, List.setIfInBounds_toArray, List.set_cons_zero, List.set_cons_succ]
  refine wpAnyH_take (i := 1) (v := ?_) rfl (by kernel_rfl) (by kernel_rfl) (by kernel_rfl) (fun _ _ _ h => h) (Or.inl ⟨by rfl, ?_⟩) (by assumption) ?_
  rotate_left
  · intro w hSw
    clear hSw
    go_simp
    try with_reducible rfl
  try simp only [Act.put, List.getElem_toArray, List.getElem_cons_zero, List.getElem_cons_succ, List.setIfInBounds_toArray, List.set_cons_zero, List.set_cons_succ]
  refine wpAnyH_take (i := 3) (v := ?_) rfl (by kernel_rfl) (by kernel_rfl) (by kernel_rfl) (fun _ _ _ h => h) (Or.inl ⟨by rfl, ?_⟩) (by assumption) ?_
  rotate_left
  · intro w hSw
    clear hSw
    go_simp
    try with_reducible rfl
  try simp only [Act.put, List.getElem_toArray, List.getElem_cons_zero, List.getElem_cons_succ, List.setIfInBounds_toArray, List.set_cons_zero, List.set_cons_succ]
  refine wpAnyH_take (i := 4) (v := ?_) rfl (by kernel_rfl) (by kernel_rfl) (by kernel_rfl) (fun _ _ _ h => h) (Or.inl ⟨by rfl, ?_⟩) (by assumption) ?_
  rotate_left
  · intro w hSw
    clear hSw
    go_simp
    try with_reducible rfl
  try simp only [Act.put, List.getElem_toArray, List.getElem_cons_zero, List.getElem_cons_succ, List.setIfInBounds_toArray, List.set_cons_zero, List.set_cons_succ]
  refine wpAnyH_take (i := 6) (v := ?_) rfl (by kernel_rfl) (by kernel_rfl) (by kernel_rfl) (fun _ _ _ h => h) (Or.inl ⟨by rfl, ?_⟩) (by assumption) ?_
  rotate_left
  · intro w hSw
    clear hSw
    go_simp
    try with_reducible rfl
  try simp only [Act.put, List.getElem_toArray, List.getElem_cons_zero, List.getElem_cons_succ, List.setIfInBounds_toArray, List.set_cons_zero, List.set_cons_succ]
  refine wpAnyH_take (i := 7) (v := ?_) rfl (by kernel_rfl) (by kernel_rfl) (by kernel_rfl) (fun _ _ _ h => h) (Or.inl ⟨by rfl, ?_⟩) (by assumption) ?_
  rotate_left
  · intro w hSw
    clear hSw
    go_simp
    try with_reducible rfl
  try simp only [Act.put, List.getElem_toArray, List.getElem_cons_zero, List.getElem_cons_succ, List.setIfInBounds_toArray, List.set_cons_zero, List.set_cons_succ]
  refine wpAnyH_take (i := 9) (v := ?_) rfl (by kernel_rfl) (by kernel_rfl) (by kernel_rfl) (fun _ _ _ h => h) (Or.inl ⟨by rfl, ?_⟩) (by assumption) ?_
  rotate_left
  · intro w hSw
    clear hSw
    go_simp
    try with_reducible rfl
  try simp only [Act.put, List.getElem_toArray, List.getElem_cons_zero, List.getElem_cons_succ, List.setIfInBounds_toArray, List.set_cons_zero, List.set_cons_succ]
  refine wpAnyH_take (i := 10) (v := ?_) rfl (by kernel_rfl) (by kernel_rfl) (by kernel_rfl) (fun _ _ _ h => h) (Or.inl ⟨by rfl, ?_⟩) (by assumption) ?_
  rotate_left
  · intro w hSw
    clear hSw
    go_simp
    try with_reducible rfl
  try simp only [Act.put, List.getElem_toArray, List.getElem_cons_zero, List.getElem_cons_succ, List.setIfInBounds_toArray, List.set_cons_zero, List.set_cons_succ]
  refine wpAnyH_take (i := 11) (v := ?_) rfl (by kernel_rfl) (by kernel_rfl) (by kernel_rfl) (fun _ _ _ h => h) (Or.inl ⟨by rfl, ?_⟩) (by assumption) ?_
  rotate_left
  · intro w hSw
    obtain ⟨e25, e26⟩ := HV.out w hSw
    clear hSw
    go_simp
    try with_reducible rfl
  try simp only [Act.put, List.getElem_toArray, List.getElem_cons_zero, List.getElem_cons_succ, List.setIfInBounds_toArray, List.set_cons_zero, List.set_cons_succ]
  refine wpAnyH_take (i := 12) (v := ?_) rfl (by kernel_rfl) (by kernel_rfl) (by kernel_rfl) (fun _ _ _ h => h) (Or.inl ⟨by rfl, ?_⟩) (by assumption) ?_
  rotate_left
  · intro w hSw
    clear hSw
    go_simp
    try with_reducible rfl
  try simp only [Act.put, List.getElem_toArray, List.getElem_cons_zero, List.getElem_cons_succ, List.setIfInBounds_toArray, List.set_cons_zero, List.set_cons_succ]
  refine wpAnyH_ready (rs := [2, 14]) (by kernel_rfl) (by simp) ?_
  refine AllReadyH.cons rfl (fun K hK => ?_) (AllReadyH.cons rfl (fun K hK => ?_) AllReadyH.nil)
  · go_simp
    refine (HS4.out _ HB2.out).mono ?_
    rintro e' w11 ⟨rfl, hb⟩
    have HB11 := Lib.hid (HB2.out.trans (hb.mono HB2.out.size))
    clear hb hHeld
    refine hK.out _ _ HB11.out (fun hHeld => ?_)
    clear hK K
    try simp only [Act.put, List.getElem_toArray, List.getElem_cons_zero, List.getElem_cons_succ, List.setIfInBounds_toArray, List.set_cons_zero, List.set_cons_succ]
    refine wpAnyH_ready (rs := [5, 14]) (by kernel_rfl) (by simp) ?_
    refine AllReadyH.cons rfl (fun K hK => ?_) (AllReadyH.cons rfl (fun K hK => ?_) AllReadyH.nil)
    · go_simp
      refine (HS10.out _ HB11.out).mono ?_
      rintro e' w13 ⟨rfl, hb⟩
      have HB13 := Lib.hid (HB11.out.trans (hb.mono HB11.out.size))
      clear hb hHeld
      refine hK.out _ _ HB13.out (fun hHeld => ?_)
      clear hK K
      try simp only [Act.put, List.getElem_toArray, List.getElem_cons_zero, List.getElem_cons_succ, List.setIfInBounds_toArray, List.set_cons_zero, List.set_cons_succ]
      refine wpAnyH_ready (rs := [8, 14]) (by kernel_rfl) (by simp) ?_
      refine AllReadyH.cons rfl (fun K hK => ?_) (AllReadyH.cons rfl (fun K hK => ?_) AllReadyH.nil)
      · go_simp
        refine (HS16.out _ HB13.out).mono ?_
        rintro e' w15 ⟨rfl, hb⟩
        have HB15 := Lib.hid (HB13.out.trans (hb.mono HB13.out.size))
        clear hb hHeld
        refine hK.out _ _ HB15.out (fun hHeld => ?_)
        clear hK K
        try simp only [Act.put, List.getElem_toArray, List.getElem_cons_zero, List.getElem_cons_succ, List.setIfInBounds_toArray, List.set_cons_zero, List.set_cons_succ]
        refine wpAnyH_take (i := 13) (v := .agg (Adf.mk (six xs 4) (six xs 10) (six xs 16) false v26 0 0 0 0 0).cells) rfl (by kernel_rfl) (by kernel_rfl) (by kernel_rfl) (fun _ _ _ h => h) (Or.inl ⟨by rfl, ?_⟩) (by assumption) ?_
        · intro w hSw
          clear hSw
          go_simp
        try simp only [Act.put, List.getElem_toArray, List.getElem_cons_zero, List.getElem_cons_succ, List.setIfInBounds_toArray, List.set_cons_zero, List.set_cons_succ]
        refine wpAnyH_ready (rs := [14]) (by kernel_rfl) (by simp) ?_
        refine AllReadyH.cons rfl (fun K hK => ?_) AllReadyH.nil
        have HZ17 := Lib.hid (heap_alloc_last w15 (.cells a0.cells 25))
        have HB17 := Lib.hid (HB15.out.alloc HB15.out.size (.cells a0.cells 25))
        have HE17 := Lib.hid (show w15.heap.size < (w15.alloc (.cells a0.cells 25)).heap.size by simp)
        have HGE := Lib.hid HB15.out.size
        clear hHeld
        go_simp
        refine hK.out _ _ HB17.out (fun hHeld => ?_)
        clear hK K
        dsimp only [a0, Adf.cells] at HZ17 HB17 HE17 hHeld
        generalize World.alloc w15 _ = w17 at *
        generalize w15.heap.size = h4 at *
        try simp only [Act.put, List.getElem_toArray, List.getElem_cons_zero, List.getElem_cons_succ, List.setIfInBounds_toArray, List.set_cons_zero, List.set_cons_succ]
        refine wpAnyH_ready (rs := [15]) (by kernel_rfl) (by simp) ?_
        refine AllReadyH.cons rfl (fun K hK => ?_) AllReadyH.nil
        rw [if_pos (by rfl)]
        refine wp_store_row _ _ _ rfl _ (Adf.mk (six xs 4) (six xs 10) (six xs 16) false v26 0 0 0 0 0).cells rfl rfl 25 a0.cells HZ17.out sizeAdd rfl (Adf.oneCell _) ?_
        have HBZ := Lib.hid (below_setRow HB17.out HGE.out (Adf.mk (six xs 4) (six xs 10) (six xs 16) false v26 0 0 0 0 0).cells)
        have HFZ := Lib.hid (setRow_heap _ _ _ (Adf.mk (six xs 4) (six xs 10) (six xs 16) false v26 0 0 0 0 0).cells _ _ HZ17.out)
        clear hHeld
        refine hK.out _ _ HBZ.out (fun hHeld => ?_)
        clear hK K hHeld
        refine wpAnyH_done (by kernel_rfl) ?_ _
        try simp only [Act.put, List.getElem_toArray, List.getElem_cons_zero, List.getElem_cons_succ, List.setIfInBounds_toArray, List.set_cons_zero, List.set_cons_succ]
        exact KEY _ _ HBZ HGE HFZ
      · have HZ16 := Lib.hid (heap_alloc_last w13 (.cells a0.cells 25))
        have HB16 := Lib.hid (HB13.out.alloc HB13.out.size (.cells a0.cells 25))
        have HE16 := Lib.hid (show w13.heap.size < (w13.alloc (.cells a0.cells 25)).heap.size by simp)
        have HGE := Lib.hid HB13.out.size
        clear hHeld
        go_simp
        refine hK.out _ _ HB16.out (fun hHeld => ?_)
        clear hK K
        dsimp only [a0, Adf.cells] at HZ16 HB16 HE16 hHeld
        generalize World.alloc w13 _ = w16 at *
        generalize w13.heap.size = h4 at *
        try simp only [Act.put, List.getElem_toArray, List.getElem_cons_zero, List.getElem_cons_succ, List.setIfInBounds_toArray, List.set_cons_zero, List.set_cons_succ]
        refine wpAnyH_ready (rs := [8]) (by kernel_rfl) (by simp) ?_
        refine AllReadyH.cons rfl (fun K hK => ?_) AllReadyH.nil
        go_simp
        refine (HS16.out _ HB16.out).mono ?_
        rintro e' w18 ⟨rfl, hb⟩
        have HB18 := Lib.hid (HB16.out.trans (hb.mono HB16.out.size))
        have HZ18 := Lib.hid ((hb.block _ HE16.out).trans HZ16.out)
        have HE18 := Lib.hid (Nat.lt_of_lt_of_le HE16.out hb.size)
        clear hb hHeld
        refine hK.out _ _ HB18.out (fun hHeld => ?_)
        clear hK K
        try simp only [Act.put, List.getElem_toArray, List.getElem_cons_zero, List.getElem_cons_succ, List.setIfInBounds_toArray, List.set_cons_zero, List.set_cons_succ]
        refine wpAnyH_take (i := 13) (v := .agg (Adf.mk (six xs 4) (six xs 10) (six xs 16) false v26 0 0 0 0 0).cells) rfl (by kernel_rfl) (by kernel_rfl) (by kernel_rfl) (fun _ _ _ h => h) (Or.inl ⟨by rfl, ?_⟩) (by assumption) ?_
        · intro w hSw
          clear hSw
          go_simp
        try simp only [Act.put, List.getElem_toArray, List.getElem_cons_zero, List.getElem_cons_succ, List.setIfInBounds_toArray, List.set_cons_zero, List.set_cons_succ]
        refine wpAnyH_ready (rs := [15]) (by kernel_rfl) (by simp) ?_
        refine AllReadyH.cons rfl (fun K hK => ?_) AllReadyH.nil
        rw [if_pos (by rfl)]
        refine wp_store_row _ _ _ rfl _ (Adf.mk (six xs 4) (six xs 10) (six xs 16) false v26 0 0 0 0 0).cells rfl rfl 25 a0.cells HZ18.out sizeAdd rfl (Adf.oneCell _) ?_
        have HBZ := Lib.hid (below_setRow HB18.out HGE.out (Adf.mk (six xs 4) (six xs 10) (six xs 16) false v26 0 0 0 0 0).cells)
        have HFZ := Lib.hid (setRow_heap _ _ _ (Adf.mk (six xs 4) (six xs 10) (six xs 16) false v26 0 0 0 0 0).cells _ _ HZ18.out)
        clear hHeld
        refine hK.out _ _ HBZ.out (fun hHeld => ?_)
        clear hK K hHeld
        refine wpAnyH_done (by kernel_rfl) ?_ _
        try simp only [Act.put, List.getElem_toArray, List.getElem_cons_zero, List.getElem_cons_succ, List.setIfInBounds_toArray, List.set_cons_zero, List.set_cons_succ]
        exact KEY _ _ HBZ HGE HFZ
    · have HZ14 := Lib.hid (heap_alloc_last w11 (.cells a0.cells 25))
      have HB14 := Lib.hid (HB11.out.alloc HB11.out.size (.cells a0.cells 25))
      have HE14 := Lib.hid (show w11.heap.size < (w11.alloc (.cells a0.cells 25)).heap.size by simp)
      have HGE := Lib.hid HB11.out.size
      clear hHeld
      go_simp
      refine hK.out _ _ HB14.out (fun hHeld => ?_)
      clear hK K
      dsimp only [a0, Adf.cells] at HZ14 HB14 HE14 hHeld
      generalize World.alloc w11 _ = w14 at *
      generalize w11.heap.size = h4 at *
      try simp only [Act.put, List.getElem_toArray, List.getElem_cons_zero, List.getElem_cons_succ, List.setIfInBounds_toArray, List.set_cons_zero, List.set_cons_succ]
      refine wpAnyH_ready (rs := [5]) (by kernel_rfl) (by simp) ?_
      refine AllReadyH.cons rfl (fun K hK => ?_) AllReadyH.nil
      go_simp
      refine (HS10.out _ HB14.out).mono ?_
      rintro e' w19 ⟨rfl, hb⟩
      have HB19 := Lib.hid (HB14.out.trans (hb.mono HB14.out.size))
      have HZ19 := Lib.hid ((hb.block _ HE14.out).trans HZ14.out)
      have HE19 := Lib.hid (Nat.lt_of_lt_of_le HE14.out hb.size)
      clear hb hHeld
      refine hK.out _ _ HB19.out (fun hHeld => ?_)
      clear hK K
      try simp only [Act.put, List.getElem_toArray, List.getElem_cons_zero, List.getElem_cons_succ, List.setIfInBounds_toArray, List.set_cons_zero, List.set_cons_succ]
      refine wpAnyH_ready (rs := [8]) (by kernel_rfl) (by simp) ?_
      refine AllReadyH.cons rfl (fun K hK => ?_) AllReadyH.nil
      go_simp
      refine (HS16.out _ HB19.out).mono ?_
      rintro e' w20 ⟨rfl, hb⟩
      have HB20 := Lib.hid (HB19.out.trans (hb.mono HB19.out.size))
      have HZ20 := Lib.hid ((hb.block _ HE19.out).trans HZ19.out)
      have HE20 := Lib.hid (Nat.lt_of_lt_of_le HE19.out hb.size)
      clear hb hHeld
      refine hK.out _ _ HB20.out (fun hHeld => ?_)
      clear hK K
      try simp only [Act.put, List.getElem_toArray, List.getElem_cons_zero, List.getElem_cons_succ, List.setIfInBounds_toArray, List.set_cons_zero, List.set_cons_succ]
      refine wpAnyH_take (i := 13) (v := .agg (Adf.mk (six xs 4) (six xs 10) (six xs 16) false v26 0 0 0 0 0).cells) rfl (by kernel_rfl) (by kernel_rfl) (by kernel_rfl) (fun _ _ _ h => h) (Or.inl ⟨by rfl, ?_⟩) (by assumption) ?_
      · intro w hSw
        clear hSw
        go_simp
      try simp only [Act.put, List.getElem_toArray, List.getElem_cons_zero, List.getElem_cons_succ, List.setIfInBounds_toArray, List.set_cons_zero, List.set_cons_succ]
      refine wpAnyH_ready (rs := [15]) (by kernel_rfl) (by simp) ?_
      refine AllReadyH.cons rfl (fun K hK => ?_) AllReadyH.nil
      rw [if_pos (by rfl)]
      refine wp_store_row _ _ _ rfl _ (Adf.mk (six xs 4) (six xs 10) (six xs 16) false v26 0 0 0 0 0).cells rfl rfl 25 a0.cells HZ20.out sizeAdd rfl (Adf.oneCell _) ?_
      have HBZ := Lib.hid (below_setRow HB20.out HGE.out (Adf.mk (six xs 4) (six xs 10) (six xs 16) false v26 0 0 0 0 0).cells)
      have HFZ := Lib.hid (setRow_heap _ _ _ (Adf.mk (six xs 4) (six xs 10) (six xs 16) false v26 0 0 0 0 0).cells _ _ HZ20.out)
      clear hHeld
      refine hK.out _ _ HBZ.out (fun hHeld => ?_)
      clear hK K hHeld
      refine wpAnyH_done (by kernel_rfl) ?_ _
      try simp only [Act.put, List.getElem_toArray, List.getElem_cons_zero, List.getElem_cons_succ, List.setIfInBounds_toArray, List.set_cons_zero, List.set_cons_succ]
      exact KEY _ _ HBZ HGE HFZ
  · have HZ12 := Lib.hid (heap_alloc_last w2 (.cells a0.cells 25))
    have HB12 := Lib.hid (HB2.out.alloc HB2.out.size (.cells a0.cells 25))
    have HE12 := Lib.hid (show w2.heap.size < (w2.alloc (.cells a0.cells 25)).heap.size by simp)
    have HGE := Lib.hid HB2.out.size
    clear hHeld
    go_simp
    refine hK.out _ _ HB12.out (fun hHeld => ?_)
    clear hK K
    dsimp only [a0, Adf.cells] at HZ12 HB12 HE12 hHeld
    generalize World.alloc w2 _ = w12 at *
    generalize w2.heap.size = h4 at *
    try simp only [Act.put, List.getElem_toArray, List.getElem_cons_zero, List.getElem_cons_succ, List.setIfInBounds_toArray, List.set_cons_zero, List.set_cons_succ]
    refine wpAnyH_ready (rs := [2]) (by kernel_rfl) (by simp) ?_
    refine AllReadyH.cons rfl (fun K hK => ?_) AllReadyH.nil
    go_simp
    refine (HS4.out _ HB12.out).mono ?_
    rintro e' w21 ⟨rfl, hb⟩
    have HB21 := Lib.hid (HB12.out.trans (hb.mono HB12.out.size))
    have HZ21 := Lib.hid ((hb.block _ HE12.out).trans HZ12.out)
    have HE21 := Lib.hid (Nat.lt_of_lt_of_le HE12.out hb.size)
    clear hb hHeld
    refine hK.out _ _ HB21.out (fun hHeld => ?_)
    clear hK K
    try simp only [Act.put, List.getElem_toArray, List.getElem_cons_zero, List.getElem_cons_succ, List.setIfInBounds_toArray, List.set_cons_zero, List.set_cons_succ]
    refine wpAnyH_ready (rs := [5]) (by kernel_rfl) (by simp) ?_
    refine AllReadyH.cons rfl (fun K hK => ?_) AllReadyH.nil
    go_simp
    refine (HS10.out _ HB21.out).mono ?_
    rintro e' w22 ⟨rfl, hb⟩
    have HB22 := Lib.hid (HB21.out.trans (hb.mono HB21.out.size))
    have HZ22 := Lib.hid ((hb.block _ HE21.out).trans HZ21.out)
    have HE22 := Lib.hid (Nat.lt_of_lt_of_le HE21.out hb.size)
    clear hb hHeld
    refine hK.out _ _ HB22.out (fun hHeld => ?_)
    clear hK K
    try simp only [Act.put, List.getElem_toArray, List.getElem_cons_zero, List.getElem_cons_succ, List.setIfInBounds_toArray, List.set_cons_zero, List.set_cons_succ]
    refine wpAnyH_ready (rs := [8]) (by kernel_rfl) (by simp) ?_
    refine AllReadyH.cons rfl (fun K hK => ?_) AllReadyH.nil
    go_simp
    refine (HS16.out _ HB22.out).mono ?_
    rintro e' w23 ⟨rfl, hb⟩
    have HB23 := Lib.hid (HB22.out.trans (hb.mono HB22.out.size))
    have HZ23 := Lib.hid ((hb.block _ HE22.out).trans HZ22.out)
    have HE23 := Lib.hid (Nat.lt_of_lt_of_le HE22.out hb.size)
    clear hb hHeld
    refine hK.out _ _ HB23.out (fun hHeld => ?_)
    clear hK K
    try simp only [Act.put, List.getElem_toArray, List.getElem_cons_zero, List.getElem_cons_succ, List.setIfInBounds_toArray, List.set_cons_zero, List.set_cons_succ]
    refine wpAnyH_take (i := 13) (v := .agg (Adf.mk (six xs 4) (six xs 10) (six xs 16) false v26 0 0 0 0 0).cells) rfl (by kernel_rfl) (by kernel_rfl) (by kernel_rfl) (fun _ _ _ h => h) (Or.inl ⟨by rfl, ?_⟩) (by assumption) ?_
    · intro w hSw
      clear hSw
      go_simp
    try simp only [Act.put, List.getElem_toArray, List.getElem_cons_zero, List.getElem_cons_succ, List.setIfInBounds_toArray, List.set_cons_zero, List.set_cons_succ]
    refine wpAnyH_ready (rs := [15]) (by kernel_rfl) (by simp) ?_
    refine AllReadyH.cons rfl (fun K hK => ?_) AllReadyH.nil
    rw [if_pos (by rfl)]
    refine wp_store_row _ _ _ rfl _ (Adf.mk (six xs 4) (six xs 10) (six xs 16) false v26 0 0 0 0 0).cells rfl rfl 25 a0.cells HZ23.out sizeAdd rfl (Adf.oneCell _) ?_
    have HBZ := Lib.hid (below_setRow HB23.out HGE.out (Adf.mk (six xs 4) (six xs 10) (six xs 16) false v26 0 0 0 0 0).cells)
    have HFZ := Lib.hid (setRow_heap _ _ _ (Adf.mk (six xs 4) (six xs 10) (six xs 16) false v26 0 0 0 0 0).cells _ _ HZ23.out)
    clear hHeld
    refine hK.out _ _ HBZ.out (fun hHeld => ?_)
    clear hK K hHeld
    refine wpAnyH_done (by kernel_rfl) ?_ _
    try simp only [Act.put, List.getElem_toArray, List.getElem_cons_zero, List.getElem_cons_succ, List.setIfInBounds_toArray, List.set_cons_zero, List.set_cons_succ]
    exact KEY _ _ HBZ HGE HFZ
theorem refReadAdd_fit (A : Option Addr) (n c : Nat) (xs : List Int) (w : World) (h : RowB .u8 w A n xs) (hnc : n ≤ c) (hb : begA xs n 33 [0, 1] = 0) :
    Calls Tryd.prog 14 #[.slice A n c] w fun e w' => e = .returned (.tuple #[(outAdd xs n).val, .int .i64 (rdAdd xs n : Nat)]) ∧ Below w.heap.size w w' := by
  have hk := (begA_fine hb).2.2.2.2
  simp only [List.mem_cons, List.not_mem_nil, or_false] at hk
  rcases hk with hk | hk
  · exact refReadAdd_ask A n c xs w h hnc hb hk
  · exact refReadAdd_ans A n c xs w h hnc hb hk
theorem refReadAdd_all (A : Option Addr) (n c : Nat) (xs : List Int) (w : World) (h : RowB .u8 w A n xs) (hnc : n ≤ c) :
    Calls Tryd.prog 14 #[.slice A n c] w fun e w' => e = .returned (.tuple #[(outAdd xs n).val, .int .i64 (rdAdd xs n : Nat)]) ∧ Below w.heap.size w w' := by
  by_cases hb : begA xs n 33 [0, 1] = 0
  · exact refReadAdd_fit A n c xs w h hnc hb
  · exact refReadAdd_beg A n c xs w h hb
end Go.Proofs.YtjgingfcfmpfaaaDoor
