/-
  CONTRACT of act.ReadAdd where it answers.
-/
import Derived.Test.YtjgingfcfmpfaaaDoorActF
namespace Go.Proofs.YtjgingfcfmpfaaaDoor
open Go.ChangeShapes Go.WideShapes Go.ChangeAt Go.RowKit
set_option linter.unusedVariables false
set_option linter.unusedSimpArgs false

theorem add_yes (q : Adf) (w : World) (hok : okAdd q = true) :
    Calls Tryd.prog 8 #[q.val] w fun e w' => ∃ g cap, e = .returned (.tuple #[.slice (some ⟨g, 0, none⟩) 33 cap, .nilIface]) ∧ OwnB w' w.heap.size 5 .u8 g 33 cap (encAdd q) ∧ Below w.heap.size w w' := by
  cases hm : q.ans
  · exact add_ask q w hok hm
  · exact add_ans q w hok hm
set_option maxRecDepth 100000 in
set_option maxHeartbeats 8000000 in
theorem readAdd_ans (A : Option Addr) (n c : Nat) (xs : List Int) (E : Nat → Addr) (w : World) (h : RowB .u8 w A n xs) (hS : Sent w E S4) (hnc : n ≤ c) (hb : begA xs n 33 [0, 1] = 0) (h25 : xs.getD 25 0 = 1) :
    Calls Tryd.prog 12 #[.slice A n c] w fun e w' => e = .returned (.tuple #[(outAdd xs n).val, errV E (rdAdd xs n)]) ∧ Below w.heap.size w w' := by
  have hq := begA_fine hb
  have hn1 : n = 33 := by omega
  subst hn1
  have HB := Lib.hid (((Below.refl w.heap.size w).alloc (Nat.le_refl _) (.cells a0.cells 25)).alloc (by simp) (.cells #[.int .u8 0, .int .u8 1] 5))
  have HG := Lib.hid (show ((w.alloc (.cells a0.cells 25)).alloc (.cells #[.int .u8 0, .int .u8 1] 5)).heap[w.heap.size]? = some (.cells a0.cells 25 (0, 0)) from (((Below.refl (w.heap.size + 1) (w.alloc (.cells a0.cells 25))).alloc (by simp) (.cells #[.int .u8 0, .int .u8 1] 5)).block w.heap.size (by simp)).trans (heap_alloc_last w (.cells a0.cells 25)))
  have HK := Lib.hid (show RowB .u8 ((w.alloc (.cells a0.cells 25)).alloc (.cells #[.int .u8 0, .int .u8 1] 5)) (some ⟨w.heap.size + 1, 0, none⟩) 2 [0, 1] from by have := lit_row (w.alloc (.cells a0.cells 25)) [0, 1] 5 (by decide) (by decide); rwa [show (w.alloc (.cells a0.cells 25)).heap.size = w.heap.size + 1 by simp] at this)
  have HSZ := Lib.hid (show w.heap.size < ((w.alloc (.cells a0.cells 25)).alloc (.cells #[.int .u8 0, .int .u8 1] 5)).heap.size by simp; omega)
  have HC := Lib.hid (begins_any A 33 c xs 33 (some ⟨w.heap.size + 1, 0, none⟩) 2 2 [0, 1] E ((w.alloc (.cells a0.cells 25)).alloc (.cells #[.int .u8 0, .int .u8 1] 5)) (h.below HB.out) HK.out (hS.below HB.out))
  rw [hb, errV_zero] at HC
  clear HK
  have HW := Lib.hid (show ∀ i, i < 33 → 0 ≤ xs.getD i 0 ∧ xs.getD i 0 ≤ 255 from fun i hi => h.wf8 i hi)
  obtain ⟨b, off, rfl, -⟩ := h.cells (by omega)
  have HR := Lib.hid h
  have HNO := Lib.hid (show ∀ (q : Adf) (w' : World), Below w.heap.size w w' → okAdd q = false → _ from fun q w' hB hok => add_no q E w' hok (hS.below hB))
  have he := hS.at_ 102 (by decide)
  simp only [gOf] at he
  generalize hE : E 102 = a at *
  have HEE := Lib.hid hE
  clear hE
  have HE0 := Lib.hid he
  have hnc' : (33 : Int) ≤ (c : Int) := by omega
  have d27 : (c = 27) = False := by simp; omega
  have d29 : (c = 29) = False := by simp; omega
  have d31 : (c = 31) = False := by simp; omega
  obtain ⟨p0, p1⟩ := numAt_wf HR.out 27 (by omega)
  obtain ⟨q0, q1⟩ := numAt_wf HR.out 29 (by omega)
  obtain ⟨r0, r1⟩ := numAt_wf HR.out 31 (by omega)
  obtain ⟨v0, v1⟩ := HW.out 26 (by omega)
  have HD := Lib.hid (show decAdd xs = ⟨six xs 4, six xs 10, six xs 16, true, xs.getD 26 0, numAt xs 29 % 64 / 4, numAt xs 29 / 64, numAt xs 31, 0, numAt xs 27⟩ by unfold decAdd; rw [if_pos h25])
  have HMEM := Lib.hid (fun hok => encAdd_mem (q := ⟨six xs 4, six xs 10, six xs 16, true, xs.getD 26 0, numAt xs 29 % 64 / 4, numAt xs 29 / 64, numAt xs 31, 0, numAt xs 27⟩) (six_wf 4 (by omega) HW.out) (six_wf 10 (by omega) HW.out) (six_wf 16 (by omega) HW.out) hok)
  have HV0 := Lib.hid (show w.cell? ⟨b, off + 25, none⟩ = some (.int .u8 1) ∧ w.cell? ⟨b, off + 26, none⟩ = some (.int .u8 (xs.getD 26 0)) from ⟨by rw [← h25]; exact HR.out.at_ 25 (by omega), HR.out.at_ 26 (by omega)⟩)
  clear he h hS
  go_enter Tryd.func12, Tryd.ntmps12
  go_wp2_with (fail)
  refine HC.out.mono ?_
  rintro e w2 ⟨rfl, rfl⟩
  generalize World.alloc (World.alloc w _) _ = w1 at *
  clear HC
  generalize xs.getD 26 0 = v26 at *
  generalize hn27 : numAt xs 27 = S at *
  have HN27 := Lib.hid hn27
  clear hn27
  generalize hn29 : numAt xs 29 = T at *
  have HN29 := Lib.hid hn29
  clear hn29
  generalize hn31 : numAt xs 31 = M at *
  have HN31 := Lib.hid hn31
  clear hn31
  clear hq
  have x0 : IntKind.i64.wrap v26 = v26 := IntWalk.i64_in _ ⟨by omega, by omega⟩
  have x1 : IntKind.i64.wrap ((T % 64).tdiv 4) = T % 64 / 4 := by rw [Int.tdiv_eq_ediv_of_nonneg (by omega)]; exact IntWalk.i64_in _ ⟨by omega, by omega⟩
  have x2 : IntKind.i64.wrap (T.tdiv 64) = T / 64 := by rw [Int.tdiv_eq_ediv_of_nonneg (by omega)]; exact IntWalk.i64_in _ ⟨by omega, by omega⟩
  go_wp2
  have HV := Lib.hid (show ∀ w' : World, Below w1.heap.size w1 w' → w'.cell? ⟨b, off + 25, none⟩ = some (.int .u8 1) ∧ w'.cell? ⟨b, off + 26, none⟩ = some (.int .u8 v26) from
    fun w' hb => ⟨below_at (HB.out.trans (hb.mono HB.out.size)) HV0.out.1, below_at (HB.out.trans (hb.mono HB.out.size)) HV0.out.2⟩)
  refine wp_region_held_drew (S := fun w' => Below w1.heap.size w1 w') (by kernel_rfl) (Below.refl _ _).drew (fun hHeld => ?_)
  generalize World.drew w1 = w2 at *
  have HB2 := Lib.hid hHeld
  refine wpAnyH_take (i := 0) (v := ?_) rfl (by kernel_rfl) (by kernel_rfl) (by kernel_rfl) (fun _ _ _ h => h) (Or.inl ⟨by rfl, ?_⟩) (by assumption) ?_
  rotate_left
  · intro w hSw
    obtain ⟨e25, e26⟩ := HV.out w hSw
    clear hSw
    go_simp
    try with_reducible rfl
  try simp only [Act.put, List.getElem_toArray, List.getElem_cons_zero, List.getElem_cons_succ, List.setIfInBounds_toArray, List.set_cons_zero, List.set_cons_succ]
  refine wpAnyH_take (i := 1) (v := ?_) rfl (by kernel_rfl) (by kernel_rfl) (by kernel_rfl) (fun _ _ _ h => h) (Or.inl ⟨by rfl, ?_⟩) (by assumption) ?_
  rotate_left
  · intro w hSw
    obtain ⟨e25, e26⟩ := HV.out w hSw
    clear hSw
    go_simp
    try with_reducible rfl
  try simp only [Act.put, List.getElem_toArray, List.getElem_cons_zero, List.getElem_cons_succ, List.setIfInBounds_toArray, List.set_cons_zero, List.set_cons_succ]
  refine wpAnyH_take (i := 2) (v := ?_) rfl (by kernel_rfl) (by kernel_rfl) (by kernel_rfl) (fun _ _ _ h => h) (Or.inl ⟨by rfl, ?_⟩) (by assumption) ?_
  rotate_left
  · intro w hSw
    obtain ⟨e25, e26⟩ := HV.out w hSw
    clear hSw
    go_simp
    try with_reducible rfl
  try simp only [Act.put, List.getElem_toArray, List.getElem_cons_zero, List.getElem_cons_succ, List.setIfInBounds_toArray, List.set_cons_zero, List.set_cons_succ]
  refine wpAnyH_take (i := 3) (v := ?_) rfl (by kernel_rfl) (by kernel_rfl) (by kernel_rfl) (fun _ _ _ h => h) (Or.inl ⟨by rfl, ?_⟩) (by assumption) ?_
  rotate_left
  · intro w hSw
    obtain ⟨e25, e26⟩ := HV.out w hSw
    clear hSw
    go_simp
    try with_reducible rfl
  try simp only [Act.put, List.getElem_toArray, List.getElem_cons_zero, List.getElem_cons_succ, List.setIfInBounds_toArray, List.set_cons_zero, List.set_cons_succ]
  refine wpAnyH_take (i := 4) (v := ?_) rfl (by kernel_rfl) (by kernel_rfl) (by kernel_rfl) (fun _ _ _ h => h) (Or.inl ⟨by rfl, ?_⟩) (by assumption) ?_
  rotate_left
  · intro w hSw
    obtain ⟨e25, e26⟩ := HV.out w hSw
    clear hSw
    go_simp
    try with_reducible rfl
  try simp only [Act.put, List.getElem_toArray, List.getElem_cons_zero, List.getElem_cons_succ, List.setIfInBounds_toArray, List.set_cons_zero, List.set_cons_succ]
  refine wpAnyH_take (i := 5) (v := ?_) rfl (by kernel_rfl) (by kernel_rfl) (by kernel_rfl) (fun _ _ _ h => h) (Or.inl ⟨by rfl, ?_⟩) (by assumption) ?_
  rotate_left
  · intro w hSw
    obtain ⟨e25, e26⟩ := HV.out w hSw
    clear hSw
    go_simp
    try with_reducible rfl
  try simp only [Act.put, List.getElem_toArray, List.getElem_cons_zero, List.getElem_cons_succ, List.setIfInBounds_toArray, List.set_cons_zero, List.set_cons_succ]
  refine wpAnyH_take (i := 6) (v := ?_) rfl (by kernel_rfl) (by kernel_rfl) (by kernel_rfl) (fun _ _ _ h => h) (Or.inl ⟨by rfl, ?_⟩) (by assumption) ?_
  rotate_left
  · intro w hSw
    obtain ⟨e25, e26⟩ := HV.out w hSw
    clear hSw
    go_simp
    try with_reducible rfl
  try simp only [Act.put, List.getElem_toArray, List.getElem_cons_zero, List.getElem_cons_succ, List.setIfInBounds_toArray, List.set_cons_zero, List.set_cons_succ]
  refine wpAnyH_take (i := 7) (v := ?_) rfl (by kernel_rfl) (by kernel_rfl) (by kernel_rfl) (fun _ _ _ h => h) (Or.inl ⟨by rfl, ?_⟩) (by assumption) ?_
  rotate_left
  · intro w hSw
    obtain ⟨e25, e26⟩ := HV.out w hSw
    clear hSw
    go_simp
    try with_reducible rfl
  try simp only [Act.put, List.getElem_toArray, List.getElem_cons_zero, List.getElem_cons_succ, List.setIfInBounds_toArray, List.set_cons_zero, List.set_cons_succ]
  refine wpAnyH_take (i := 8) (v := .agg (Adf.mk ⟨0, 0, 0, 0, 0, 0⟩ ⟨0, 0, 0, 0, 0, 0⟩ ⟨0, 0, 0, 0, 0, 0⟩ true v26 0 0 0 0 0).cells) rfl (by kernel_rfl) (by kernel_rfl) (by kernel_rfl) (fun _ _ _ h => h) (Or.inl ⟨by rfl, ?_⟩) (by assumption) ?_
  · intro w hSw
    clear hSw
    go_simp
  try simp only [Act.put, List.getElem_toArray, List.getElem_cons_zero, List.getElem_cons_succ, List.setIfInBounds_toArray, List.set_cons_zero, List.set_cons_succ]
  refine wpAnyH_ready (rs := [9]) (by kernel_rfl) (by simp) ?_
  refine AllReadyH.cons rfl (fun K hK => ?_) AllReadyH.nil
  have HZ := Lib.hid (heap_alloc_last w2 (.cells a0.cells 25))
  have HBa := Lib.hid (HB2.out.alloc HB2.out.size (.cells a0.cells 25))
  have HSa := Lib.hid HB2.out.size
  clear hHeld
  go_simp
  refine hK.out _ _ HBa.out (fun hHeld => ?_)
  clear hK K
  dsimp only [a0, Adf.cells] at HZ HBa hHeld
  generalize World.alloc w2 _ = w3 at *
  generalize w2.heap.size = bF at *
  try simp only [Act.put, List.getElem_toArray, List.getElem_cons_zero, List.getElem_cons_succ, List.setIfInBounds_toArray, List.set_cons_zero, List.set_cons_succ]
  refine wpAnyH_ready (rs := [10]) (by kernel_rfl) (by simp) ?_
  refine AllReadyH.cons rfl (fun K hK => ?_) AllReadyH.nil
  rw [if_pos (by rfl)]
  refine wp_store_row _ _ _ rfl bF (Adf.mk ⟨0, 0, 0, 0, 0, 0⟩ ⟨0, 0, 0, 0, 0, 0⟩ ⟨0, 0, 0, 0, 0, 0⟩ true v26 0 0 0 0 0).cells rfl rfl 25 a0.cells HZ.out sizeAdd rfl (Adf.oneCell _) ?_
  have HBZ := Lib.hid (below_setRow HBa.out HSa.out (Adf.mk ⟨0, 0, 0, 0, 0, 0⟩ ⟨0, 0, 0, 0, 0, 0⟩ ⟨0, 0, 0, 0, 0, 0⟩ true v26 0 0 0 0 0).cells)
  have HF := Lib.hid (setRow_heap _ bF _ (Adf.mk ⟨0, 0, 0, 0, 0, 0⟩ ⟨0, 0, 0, 0, 0, 0⟩ ⟨0, 0, 0, 0, 0, 0⟩ true v26 0 0 0 0 0).cells _ _ HZ.out)
  clear hHeld
  refine hK.out _ _ HBZ.out (fun hHeld => ?_)
  clear hK K hHeld
  refine wpAnyH_done (by kernel_rfl) ?_ _
  try simp only [Act.put, List.getElem_toArray, List.getElem_cons_zero, List.getElem_cons_succ, List.setIfInBounds_toArray, List.set_cons_zero, List.set_cons_succ]
  have T0 := Lib.hid (HB.out.trans (HBZ.out.mono HB.out.size))
  have T1 := Lib.hid ((HBZ.out.block _ HSZ.out).trans HG.out)
  have HLh := Lib.hid (Nat.lt_of_lt_of_le HSZ.out HSa.out)
  clear HB2 HZ HBa HBZ HV
  clear HB HG
  have HB := T0
  have HG := T1
  clear T0 T1
  generalize World.setRow _ _ _ = w4 at *
  have HL := Lib.hid (show w.heap.size < w4.heap.size by
    by_cases hp : w.heap.size < w4.heap.size
    · exact hp
    · have := HG.out; rw [Array.getElem?_eq_none (Nat.le_of_not_lt hp)] at this; cases this)
  have HH := Lib.hid (show bF < w4.heap.size by
    by_cases hp : bF < w4.heap.size
    · exact hp
    · have := HF.out; rw [Array.getElem?_eq_none (Nat.le_of_not_lt hp)] at this; cases this)
  go_wp2_with (fail)
  refine (readHead_any b off 33 c xs w4 (HR.out.below HB.out) (by omega) hnc).mono ?_
  rintro e w5 ⟨rfl, hB⟩
  have T0 := Lib.hid (HB.out.trans (hB.mono HB.out.size))
  have T1 := Lib.hid ((hB.block _ HL.out).trans HG.out)
  have T2 := Lib.hid ((hB.block _ HH.out).trans HF.out)
  have T3 := Lib.hid (Nat.lt_of_lt_of_le HL.out hB.size)
  have T4 := Lib.hid (Nat.lt_of_lt_of_le HH.out hB.size)
  clear hB
  clear HB HG HF HL HH
  have HB := T0
  have HG := T1
  have HF := T2
  have HL := T3
  have HH := T4
  clear T0 T1 T2 T3 T4
  go_wp2_with (first
    | (refine wpList_store_part rfl 23 (.tmp 31) (.tmp 28) rfl bF 0 (six xs 4).cells rfl rfl 25 (Adf.mk ⟨0, 0, 0, 0, 0, 0⟩ ⟨0, 0, 0, 0, 0, 0⟩ ⟨0, 0, 0, 0, 0, 0⟩ true v26 0 0 0 0 0).cells (Adf.mk (six xs 4) ⟨0, 0, 0, 0, 0, 0⟩ ⟨0, 0, 0, 0, 0, 0⟩ true v26 0 0 0 0 0).cells HF.out size6 (show 0 + 6 ≤ 25 by decide) (A6.oneCell _) rfl ?_; have T0 := Lib.hid (below_setRow HB.out (Nat.le_of_lt HLh.out) (Adf.mk (six xs 4) ⟨0, 0, 0, 0, 0, 0⟩ ⟨0, 0, 0, 0, 0, 0⟩ true v26 0 0 0 0 0).cells); have T1 := Lib.hid ((setRow_other _ bF w.heap.size (Adf.mk (six xs 4) ⟨0, 0, 0, 0, 0, 0⟩ ⟨0, 0, 0, 0, 0, 0⟩ true v26 0 0 0 0 0).cells (Nat.ne_of_lt HLh.out)).trans HG.out); have T2 := Lib.hid (setRow_heap _ bF _ (Adf.mk (six xs 4) ⟨0, 0, 0, 0, 0, 0⟩ ⟨0, 0, 0, 0, 0, 0⟩ true v26 0 0 0 0 0).cells _ _ HF.out); clear HB HG HF; have HB := T0; have HG := T1; have HF := T2; clear T0 T1 T2; generalize World.setRow _ _ _ = wN at *)
    | (refine wpList_store_part rfl 23 (.tmp 32) (.tmp 29) rfl bF 6 (six xs 10).cells rfl rfl 25 (Adf.mk (six xs 4) ⟨0, 0, 0, 0, 0, 0⟩ ⟨0, 0, 0, 0, 0, 0⟩ true v26 0 0 0 0 0).cells (Adf.mk (six xs 4) (six xs 10) ⟨0, 0, 0, 0, 0, 0⟩ true v26 0 0 0 0 0).cells HF.out size6 (show 6 + 6 ≤ 25 by decide) (A6.oneCell _) rfl ?_; have T0 := Lib.hid (below_setRow HB.out (Nat.le_of_lt HLh.out) (Adf.mk (six xs 4) (six xs 10) ⟨0, 0, 0, 0, 0, 0⟩ true v26 0 0 0 0 0).cells); have T1 := Lib.hid ((setRow_other _ bF w.heap.size (Adf.mk (six xs 4) (six xs 10) ⟨0, 0, 0, 0, 0, 0⟩ true v26 0 0 0 0 0).cells (Nat.ne_of_lt HLh.out)).trans HG.out); have T2 := Lib.hid (setRow_heap _ bF _ (Adf.mk (six xs 4) (six xs 10) ⟨0, 0, 0, 0, 0, 0⟩ true v26 0 0 0 0 0).cells _ _ HF.out); clear HB HG HF; have HB := T0; have HG := T1; have HF := T2; clear T0 T1 T2; generalize World.setRow _ _ _ = wN at *)
    | (refine wpList_store_part rfl 23 (.tmp 33) (.tmp 30) rfl bF 12 (six xs 16).cells rfl rfl 25 (Adf.mk (six xs 4) (six xs 10) ⟨0, 0, 0, 0, 0, 0⟩ true v26 0 0 0 0 0).cells (Adf.mk (six xs 4) (six xs 10) (six xs 16) true v26 0 0 0 0 0).cells HF.out size6 (show 12 + 6 ≤ 25 by decide) (A6.oneCell _) rfl ?_; have T0 := Lib.hid (below_setRow HB.out (Nat.le_of_lt HLh.out) (Adf.mk (six xs 4) (six xs 10) (six xs 16) true v26 0 0 0 0 0).cells); have T1 := Lib.hid ((setRow_other _ bF w.heap.size (Adf.mk (six xs 4) (six xs 10) (six xs 16) true v26 0 0 0 0 0).cells (Nat.ne_of_lt HLh.out)).trans HG.out); have T2 := Lib.hid (setRow_heap _ bF _ (Adf.mk (six xs 4) (six xs 10) (six xs 16) true v26 0 0 0 0 0).cells _ _ HF.out); clear HB HG HF; have HB := T0; have HG := T1; have HF := T2; clear T0 T1 T2; generalize World.setRow _ _ _ = wN at *; have d18 := cell_of_row wN bF 18 _ _ _ HF.out; dsimp only [Adf.cells] at d18))
  clear d18
  have T0 := Lib.hid HB.out.drew
  have T1 := Lib.hid (show wN.drew.heap[w.heap.size]? = some (.cells a0.cells 25 (0, 0)) from HG.out)
  have T2 := Lib.hid (show wN.drew.heap[bF]? = some (.cells (Adf.mk (six xs 4) (six xs 10) (six xs 16) true v26 0 0 0 0 0).cells 25 (0, 0)) from HF.out)
  clear HB HG HF
  have HB := T0
  have HG := T1
  have HF := T2
  clear T0 T1 T2
  refine wp_region_held_drew (S := fun w' => Below w.heap.size w w') (by kernel_rfl) HB.out (fun hHeld => ?_)
  generalize World.drew wN = wN at *
  refine wpAnyH_take (i := 0) (v := ?_) rfl (by kernel_rfl) (by kernel_rfl) (by kernel_rfl) (fun _ _ _ h => h) (Or.inl ⟨by rfl, ?_⟩) (by assumption) ?_
  rotate_left
  · intro w hSw
    clear hSw
    go_simp
    try with_reducible rfl
  try simp only [Act.put, List.getElem_toArray, List.getElem_cons_zero, List.getElem_cons_succ, List.setIfInBounds_toArray, List.set_cons_zero, List.set_cons_succ]
  refine wpAnyH_take (i := 1) (v := ?_) rfl (by kernel_rfl) (by kernel_rfl) (by kernel_rfl) (fun _ _ _ h => h) (Or.inl ⟨by rfl, ?_⟩) (by assumption) ?_
  rotate_left
  · intro w hSw
    clear hSw
    go_simp
    try with_reducible rfl
  try simp only [Act.put, List.getElem_toArray, List.getElem_cons_zero, List.getElem_cons_succ, List.setIfInBounds_toArray, List.set_cons_zero, List.set_cons_succ]
  refine wpAnyH_take (i := 3) (v := ?_) rfl (by kernel_rfl) (by kernel_rfl) (by kernel_rfl) (fun _ _ _ h => h) (Or.inl ⟨by rfl, ?_⟩) (by assumption) ?_
  rotate_left
  · intro w hSw
    clear hSw
    go_simp
    try with_reducible rfl
  try simp only [Act.put, List.getElem_toArray, List.getElem_cons_zero, List.getElem_cons_succ, List.setIfInBounds_toArray, List.set_cons_zero, List.set_cons_succ]
  refine wpAnyH_take (i := 4) (v := ?_) rfl (by kernel_rfl) (by kernel_rfl) (by kernel_rfl) (fun _ _ _ h => h) (Or.inl ⟨by rfl, ?_⟩) (by assumption) ?_
  rotate_left
  · intro w hSw
    clear hSw
    go_simp
    try with_reducible rfl
  try simp only [Act.put, List.getElem_toArray, List.getElem_cons_zero, List.getElem_cons_succ, List.setIfInBounds_toArray, List.set_cons_zero, List.set_cons_succ]
  refine wpAnyH_take (i := 6) (v := ?_) rfl (by kernel_rfl) (by kernel_rfl) (by kernel_rfl) (fun _ _ _ h => h) (Or.inl ⟨by rfl, ?_⟩) (by assumption) ?_
  rotate_left
  · intro w hSw
    clear hSw
    go_simp
    try with_reducible rfl
  try simp only [Act.put, List.getElem_toArray, List.getElem_cons_zero, List.getElem_cons_succ, List.setIfInBounds_toArray, List.set_cons_zero, List.set_cons_succ]
  refine wpAnyH_take (i := 7) (v := ?_) rfl (by kernel_rfl) (by kernel_rfl) (by kernel_rfl) (fun _ _ _ h => h) (Or.inl ⟨by rfl, ?_⟩) (by assumption) ?_
  rotate_left
  · intro w hSw
    clear hSw
    go_simp
    try with_reducible rfl
  try simp only [Act.put, List.getElem_toArray, List.getElem_cons_zero, List.getElem_cons_succ, List.setIfInBounds_toArray, List.set_cons_zero, List.set_cons_succ]
  refine wpAnyH_ready (rs := [2]) (by kernel_rfl) (by simp) ?_
  refine AllReadyH.cons rfl (fun K hK => ?_) AllReadyH.nil
  go_simp
  refine (number_off 27 b off 33 c xs _ (HR.out.below HB.out) (by omega)).mono ?_
  rintro e' w' ⟨rfl, m, rfl⟩
  have T0 := Lib.hid (below_drewN HB.out m)
  have T1 := Lib.hid (show (wN.drewN m).heap[w.heap.size]? = some (.cells a0.cells 25 (0, 0)) from HG.out)
  have T2 := Lib.hid (show (wN.drewN m).heap[bF]? = some (.cells (Adf.mk (six xs 4) (six xs 10) (six xs 16) true v26 0 0 0 0 0).cells 25 (0, 0)) from HF.out)
  clear HB HG HF
  have HB := T0
  have HG := T1
  have HF := T2
  clear T0 T1 T2
  clear hHeld
  refine hK.out _ _ HB.out (fun hHeld => ?_)
  clear hK K
  generalize wN.drewN m = wN at *
  try simp only [Act.put, List.getElem_toArray, List.getElem_cons_zero, List.getElem_cons_succ, List.setIfInBounds_toArray, List.set_cons_zero, List.set_cons_succ]
  try rw [HN27.out]
  refine wpAnyH_take (i := 9) (v := ?_) rfl (by kernel_rfl) (by kernel_rfl) (by kernel_rfl) (fun _ _ _ h => h) (Or.inl ⟨by rfl, ?_⟩) (by assumption) ?_
  rotate_left
  · intro w hSw
    clear hSw
    go_simp
    try with_reducible rfl
  try simp only [Act.put, List.getElem_toArray, List.getElem_cons_zero, List.getElem_cons_succ, List.setIfInBounds_toArray, List.set_cons_zero, List.set_cons_succ]
  refine wpAnyH_ready (rs := [5]) (by kernel_rfl) (by simp) ?_
  refine AllReadyH.cons rfl (fun K hK => ?_) AllReadyH.nil
  go_simp
  refine (number_off 29 b off 33 c xs _ (HR.out.below HB.out) (by omega)).mono ?_
  rintro e' w' ⟨rfl, m, rfl⟩
  have T0 := Lib.hid (below_drewN HB.out m)
  have T1 := Lib.hid (show (wN.drewN m).heap[w.heap.size]? = some (.cells a0.cells 25 (0, 0)) from HG.out)
  have T2 := Lib.hid (show (wN.drewN m).heap[bF]? = some (.cells (Adf.mk (six xs 4) (six xs 10) (six xs 16) true v26 0 0 0 0 0).cells 25 (0, 0)) from HF.out)
  clear HB HG HF
  have HB := T0
  have HG := T1
  have HF := T2
  clear T0 T1 T2
  clear hHeld
  refine hK.out _ _ HB.out (fun hHeld => ?_)
  clear hK K
  generalize wN.drewN m = wN at *
  try simp only [Act.put, List.getElem_toArray, List.getElem_cons_zero, List.getElem_cons_succ, List.setIfInBounds_toArray, List.set_cons_zero, List.set_cons_succ]
  try rw [HN29.out]
  refine wpAnyH_ready (rs := [8]) (by kernel_rfl) (by simp) ?_
  refine AllReadyH.cons rfl (fun K hK => ?_) AllReadyH.nil
  go_simp
  refine (number_off 31 b off 33 c xs _ (HR.out.below HB.out) (by omega)).mono ?_
  rintro e' w' ⟨rfl, m, rfl⟩
  have T0 := Lib.hid (below_drewN HB.out m)
  have T1 := Lib.hid (show (wN.drewN m).heap[w.heap.size]? = some (.cells a0.cells 25 (0, 0)) from HG.out)
  have T2 := Lib.hid (show (wN.drewN m).heap[bF]? = some (.cells (Adf.mk (six xs 4) (six xs 10) (six xs 16) true v26 0 0 0 0 0).cells 25 (0, 0)) from HF.out)
  clear HB HG HF
  have HB := T0
  have HG := T1
  have HF := T2
  clear T0 T1 T2
  clear hHeld
  refine hK.out _ _ HB.out (fun hHeld => ?_)
  clear hK K
  generalize wN.drewN m = wN at *
  try simp only [Act.put, List.getElem_toArray, List.getElem_cons_zero, List.getElem_cons_succ, List.setIfInBounds_toArray, List.set_cons_zero, List.set_cons_succ]
  try rw [HN31.out]
  refine wpAnyH_ready (rs := [10]) (by kernel_rfl) (by simp) ?_
  refine AllReadyH.cons rfl (fun K hK => ?_) AllReadyH.nil
  rw [if_pos (by rfl)]
  refine wp_store_into _ _ _ rfl bF 24 (.int .i64 S) rfl rfl rfl 25 (Adf.mk (six xs 4) (six xs 10) (six xs 16) true v26 0 0 0 0 0).cells (Adf.mk (six xs 4) (six xs 10) (six xs 16) true v26 0 0 0 0 S).cells HF.out sizeI64 (show 24 < 25 by decide) rfl ?_
  have T0 := Lib.hid (below_setRow HB.out (Nat.le_of_lt HLh.out) (Adf.mk (six xs 4) (six xs 10) (six xs 16) true v26 0 0 0 0 S).cells)
  have T1 := Lib.hid ((setRow_other _ bF w.heap.size (Adf.mk (six xs 4) (six xs 10) (six xs 16) true v26 0 0 0 0 S).cells (Nat.ne_of_lt HLh.out)).trans HG.out)
  have T2 := Lib.hid (setRow_heap _ bF _ (Adf.mk (six xs 4) (six xs 10) (six xs 16) true v26 0 0 0 0 S).cells _ _ HF.out)
  clear HB HG HF
  have HB := T0
  have HG := T1
  have HF := T2
  clear T0 T1 T2
  clear hHeld
  refine hK.out _ _ HB.out (fun hHeld => ?_)
  clear hK K
  generalize World.setRow _ _ _ = wN at *
  try simp only [Act.put, List.getElem_toArray, List.getElem_cons_zero, List.getElem_cons_succ, List.setIfInBounds_toArray, List.set_cons_zero, List.set_cons_succ]
  refine wpAnyH_take (i := 11) (v := ?_) rfl (by kernel_rfl) (by kernel_rfl) (by kernel_rfl) (fun _ _ _ h => h) (Or.inl ⟨by rfl, ?_⟩) (by assumption) ?_
  rotate_left
  · intro w hSw
    clear hSw
    go_simp
    try with_reducible rfl
  try simp only [Act.put, List.getElem_toArray, List.getElem_cons_zero, List.getElem_cons_succ, List.setIfInBounds_toArray, List.set_cons_zero, List.set_cons_succ]
  refine wpAnyH_take (i := 12) (v := ?_) rfl (by kernel_rfl) (by kernel_rfl) (by kernel_rfl) (fun _ _ _ h => h) (Or.inl ⟨by rfl, ?_⟩) (by assumption) ?_
  rotate_left
  · intro w hSw
    clear hSw
    go_simp
    try with_reducible rfl
  try simp only [Act.put, List.getElem_toArray, List.getElem_cons_zero, List.getElem_cons_succ, List.setIfInBounds_toArray, List.set_cons_zero, List.set_cons_succ]
  refine wpAnyH_ready (rs := [13]) (by kernel_rfl) (by simp) ?_
  refine AllReadyH.cons rfl (fun K hK => ?_) AllReadyH.nil
  rw [if_pos (by rfl)]
  refine wp_store_into _ _ _ rfl bF 22 (.int .i64 M) rfl rfl rfl 25 (Adf.mk (six xs 4) (six xs 10) (six xs 16) true v26 0 0 0 0 S).cells (Adf.mk (six xs 4) (six xs 10) (six xs 16) true v26 0 0 M 0 S).cells HF.out sizeI64 (show 22 < 25 by decide) rfl ?_
  have T0 := Lib.hid (below_setRow HB.out (Nat.le_of_lt HLh.out) (Adf.mk (six xs 4) (six xs 10) (six xs 16) true v26 0 0 M 0 S).cells)
  have T1 := Lib.hid ((setRow_other _ bF w.heap.size (Adf.mk (six xs 4) (six xs 10) (six xs 16) true v26 0 0 M 0 S).cells (Nat.ne_of_lt HLh.out)).trans HG.out)
  have T2 := Lib.hid (setRow_heap _ bF _ (Adf.mk (six xs 4) (six xs 10) (six xs 16) true v26 0 0 M 0 S).cells _ _ HF.out)
  clear HB HG HF
  have HB := T0
  have HG := T1
  have HF := T2
  clear T0 T1 T2
  clear hHeld
  refine hK.out _ _ HB.out (fun hHeld => ?_)
  clear hK K
  generalize World.setRow _ _ _ = wN at *
  try simp only [Act.put, List.getElem_toArray, List.getElem_cons_zero, List.getElem_cons_succ, List.setIfInBounds_toArray, List.set_cons_zero, List.set_cons_succ]
  refine wpAnyH_done (by kernel_rfl) ?_ _
  clear hHeld
  try simp only [Act.put, List.getElem_toArray, List.getElem_cons_zero, List.getElem_cons_succ, List.setIfInBounds_toArray, List.set_cons_zero, List.set_cons_succ]
  go_wp2_with (first
    | (refine wpList_store_into rfl 3 (.tmp 64) (.tmp 61) rfl bF 20 (.int .i64 (T % 64 / 4)) rfl rfl rfl 25 (Adf.mk (six xs 4) (six xs 10) (six xs 16) true v26 0 0 M 0 S).cells (Adf.mk (six xs 4) (six xs 10) (six xs 16) true v26 (T % 64 / 4) 0 M 0 S).cells HF.out sizeI64 (show 20 < 25 by decide) rfl ?_; have T0 := Lib.hid (below_setRow HB.out (Nat.le_of_lt HLh.out) (Adf.mk (six xs 4) (six xs 10) (six xs 16) true v26 (T % 64 / 4) 0 M 0 S).cells); have T1 := Lib.hid ((setRow_other _ bF w.heap.size (Adf.mk (six xs 4) (six xs 10) (six xs 16) true v26 (T % 64 / 4) 0 M 0 S).cells (Nat.ne_of_lt HLh.out)).trans HG.out); have T2 := Lib.hid (setRow_heap _ bF _ (Adf.mk (six xs 4) (six xs 10) (six xs 16) true v26 (T % 64 / 4) 0 M 0 S).cells _ _ HF.out); clear HB HG HF; have HB := T0; have HG := T1; have HF := T2; clear T0 T1 T2; generalize World.setRow _ _ _ = wN at *)
    | (refine wpList_store_into rfl 3 (.tmp 65) (.tmp 63) rfl bF 21 (.int .i64 (T / 64)) rfl rfl rfl 25 (Adf.mk (six xs 4) (six xs 10) (six xs 16) true v26 (T % 64 / 4) 0 M 0 S).cells (Adf.mk (six xs 4) (six xs 10) (six xs 16) true v26 (T % 64 / 4) (T / 64) M 0 S).cells HF.out sizeI64 (show 21 < 25 by decide) rfl ?_; have T0 := Lib.hid (below_setRow HB.out (Nat.le_of_lt HLh.out) (Adf.mk (six xs 4) (six xs 10) (six xs 16) true v26 (T % 64 / 4) (T / 64) M 0 S).cells); have T1 := Lib.hid ((setRow_other _ bF w.heap.size (Adf.mk (six xs 4) (six xs 10) (six xs 16) true v26 (T % 64 / 4) (T / 64) M 0 S).cells (Nat.ne_of_lt HLh.out)).trans HG.out); have T2 := Lib.hid (setRow_heap _ bF _ (Adf.mk (six xs 4) (six xs 10) (six xs 16) true v26 (T % 64 / 4) (T / 64) M 0 S).cells _ _ HF.out); clear HB HG HF; have HB := T0; have HG := T1; have HF := T2; clear T0 T1 T2; generalize World.setRow _ _ _ = wN at *)
    | (refine wpList_load_row rfl 25 (.tmp 5) rfl bF rfl 25 (Adf.mk (six xs 4) (six xs 10) (six xs 16) true v26 (T % 64 / 4) (T / 64) M 0 S).cells (0, 0) _ HF.out Tryd.underlying25 rfl sizeAdd ?_))
  have T0 := Lib.hid (show w.heap.size < wN.heap.size by
    by_cases hp : w.heap.size < wN.heap.size
    · exact hp
    · have := HG.out; rw [Array.getElem?_eq_none (Nat.le_of_not_lt hp)] at this; cases this)
  have T1 := Lib.hid (show bF < wN.heap.size by
    by_cases hp : bF < wN.heap.size
    · exact hp
    · have := HF.out; rw [Array.getElem?_eq_none (Nat.le_of_not_lt hp)] at this; cases this)
  clear HL HH
  have HL := T0
  have HH := T1
  clear T0 T1
  cases hok : okAdd (Adf.mk (six xs 4) (six xs 10) (six xs 16) true v26 (T % 64 / 4) (T / 64) M 0 S)
  · refine (HNO.out (Adf.mk (six xs 4) (six xs 10) (six xs 16) true v26 (T % 64 / 4) (T / 64) M 0 S) wN HB.out hok).mono ?_
    rintro e w8 ⟨rfl, hB⟩
    have T0 := Lib.hid (HB.out.trans (hB.mono HB.out.size))
    have T1 := Lib.hid ((hB.block _ HL.out).trans HG.out)
    clear hB HF
    clear HB HG
    have HB := T0
    have HG := T1
    clear T0 T1
    have HEQ := Lib.hid (rdAdd_bad hb (by rw [HD.out, hok]; simp))
    have he := below_at HB.out HE0.out
    go_wp2
    refine wp_region_held_drew (S := fun w' => w' = w8.drew) (by kernel_rfl) rfl (fun hHeld => ?_)
    refine wpAnyH_take (i := 0) (v := .agg a0.cells) rfl (by kernel_rfl) (by kernel_rfl) (by kernel_rfl) (fun _ _ _ h => h) (Or.inl ⟨by rfl, ?_⟩) (by assumption) ?_
    · intro w hSw
      go_simp
    refine wpAnyH_take (i := 1) (v := errP a) rfl (by kernel_rfl) (by kernel_rfl) (by kernel_rfl) (fun _ _ _ h => h) (Or.inl ⟨by rfl, ?_⟩) (by assumption) ?_
    · rintro w rfl
      go_simp
    refine wpAnyH_ready (rs := [2]) (by kernel_rfl) (by simp) ?_
    refine AllReadyH.cons rfl (fun K hK => ?_) AllReadyH.nil
    rw [if_pos (by rfl)]
    refine wp_store_row _ _ _ rfl w.heap.size a0.cells rfl rfl _ a0.cells HG.out sizeAdd rfl a0.oneCell ?_
    rw [setRow_same _ _ _ _ _ (show w8.drew.heap[w.heap.size]? = _ from HG.out)]
    refine hK.out _ _ rfl (fun hHeld => ?_)
    refine wpAnyH_take (i := 3) (v := errP a) rfl (by kernel_rfl) (by kernel_rfl) (by kernel_rfl) (fun _ _ _ h => h) (Or.inl ⟨by rfl, ?_⟩) (by assumption) ?_
    · rintro w rfl
      go_simp
    refine wpAnyH_done (by kernel_rfl) ?_ _
    simp only [Act.put, List.setIfInBounds_toArray, List.set_cons_zero, List.set_cons_succ]
    go_wp2
    refine bodyPost_ret (v := .tuple #[.agg a0.cells, errP a]) (results_cell_slot (p := 2) (q := 3) Tryd.results12 _ _ w.heap.size _ a0.cells _ _ rfl (show w8.drew.heap[w.heap.size]? = _ from HG.out) Tryd.underlying25 rfl sizeAdd) rfl ⟨by rw [HEQ.out.1, HEQ.out.2, ← HEE.out]; rfl, HB.out.drew⟩
  · refine (add_yes (Adf.mk (six xs 4) (six xs 10) (six xs 16) true v26 (T % 64 / 4) (T / 64) M 0 S) wN hok).mono ?_
    rintro e w8 ⟨g, cap, rfl, hO, hB⟩
    have HY := Lib.hid (hO.row8 (all_wf (encAdd_len _) (HMEM.out hok)))
    have T0 := Lib.hid (HB.out.trans (hB.mono HB.out.size))
    have T1 := Lib.hid ((hB.block _ HL.out).trans HG.out)
    have T2 := Lib.hid ((hB.block _ HH.out).trans HF.out)
    clear hB hO
    clear HB HG HF
    have HB := T0
    have HG := T1
    have HF := T2
    clear T0 T1 T2
    go_wp2_with (fail)
    refine (equal_any g 0 33 cap b off 33 c (encAdd (Adf.mk (six xs 4) (six xs 10) (six xs 16) true v26 (T % 64 / 4) (T / 64) M 0 S)) xs w8 HY.out (HR.out.below HB.out) (by omega) (by omega)).mono ?_
    rintro e w9 ⟨rfl, rfl⟩
    cases hsm : sameB (encAdd (Adf.mk (six xs 4) (six xs 10) (six xs 16) true v26 (T % 64 / 4) (T / 64) M 0 S)) xs
    · have HEQ := Lib.hid (rdAdd_bad hb (by rw [HD.out, hok, hsm]; simp))
      have he := below_at HB.out HE0.out
      go_wp2
      refine wp_region_held_drew (S := fun w' => w' = w8.drew) (by kernel_rfl) rfl (fun hHeld => ?_)
      refine wpAnyH_take (i := 0) (v := .agg a0.cells) rfl (by kernel_rfl) (by kernel_rfl) (by kernel_rfl) (fun _ _ _ h => h) (Or.inl ⟨by rfl, ?_⟩) (by assumption) ?_
      · intro w hSw
        go_simp
      refine wpAnyH_take (i := 1) (v := errP a) rfl (by kernel_rfl) (by kernel_rfl) (by kernel_rfl) (fun _ _ _ h => h) (Or.inl ⟨by rfl, ?_⟩) (by assumption) ?_
      · rintro w rfl
        go_simp
      refine wpAnyH_ready (rs := [2]) (by kernel_rfl) (by simp) ?_
      refine AllReadyH.cons rfl (fun K hK => ?_) AllReadyH.nil
      rw [if_pos (by rfl)]
      refine wp_store_row _ _ _ rfl w.heap.size a0.cells rfl rfl _ a0.cells HG.out sizeAdd rfl a0.oneCell ?_
      rw [setRow_same _ _ _ _ _ (show w8.drew.heap[w.heap.size]? = _ from HG.out)]
      refine hK.out _ _ rfl (fun hHeld => ?_)
      refine wpAnyH_take (i := 3) (v := errP a) rfl (by kernel_rfl) (by kernel_rfl) (by kernel_rfl) (fun _ _ _ h => h) (Or.inl ⟨by rfl, ?_⟩) (by assumption) ?_
      · rintro w rfl
        go_simp
      refine wpAnyH_done (by kernel_rfl) ?_ _
      simp only [Act.put, List.setIfInBounds_toArray, List.set_cons_zero, List.set_cons_succ]
      go_wp2
      refine bodyPost_ret (v := .tuple #[.agg a0.cells, errP a]) (results_cell_slot (p := 2) (q := 3) Tryd.results12 _ _ w.heap.size _ a0.cells _ _ rfl (show w8.drew.heap[w.heap.size]? = _ from HG.out) Tryd.underlying25 rfl sizeAdd) rfl ⟨by rw [HEQ.out.1, HEQ.out.2, ← HEE.out]; rfl, HB.out.drew⟩
    · have HEQ := Lib.hid (rdAdd_good hb (by rw [HD.out, hok, hsm]; simp))
      go_wp2_with (first | (refine wpList_load_row rfl 25 (.tmp 5) rfl bF rfl 25 (Adf.mk (six xs 4) (six xs 10) (six xs 16) true v26 (T % 64 / 4) (T / 64) M 0 S).cells (0, 0) _ HF.out Tryd.underlying25 rfl sizeAdd ?_) | (refine wpList_store_row rfl 25 (.tmp 2) (.tmp 81) rfl w.heap.size (Adf.mk (six xs 4) (six xs 10) (six xs 16) true v26 (T % 64 / 4) (T / 64) M 0 S).cells rfl rfl 25 a0.cells HG.out sizeAdd rfl (Adf.oneCell _) ?_))
      have HGz := Lib.hid (setRow_heap w8 w.heap.size a0.cells (Adf.mk (six xs 4) (six xs 10) (six xs 16) true v26 (T % 64 / 4) (T / 64) M 0 S).cells 25 (0, 0) HG.out)
      refine bodyPost_ret (v := .tuple #[.agg (Adf.mk (six xs 4) (six xs 10) (six xs 16) true v26 (T % 64 / 4) (T / 64) M 0 S).cells, .nilIface]) (results_cell_slot (p := 2) (q := 3) Tryd.results12 _ _ w.heap.size _ (Adf.mk (six xs 4) (six xs 10) (six xs 16) true v26 (T % 64 / 4) (T / 64) M 0 S).cells _ _ rfl HGz.out Tryd.underlying25 rfl sizeAdd) rfl ⟨by rw [HEQ.out.1, HEQ.out.2, HD.out]; rfl, below_setRow HB.out (Nat.le_refl _) _⟩
end Go.Proofs.YtjgingfcfmpfaaaDoor
