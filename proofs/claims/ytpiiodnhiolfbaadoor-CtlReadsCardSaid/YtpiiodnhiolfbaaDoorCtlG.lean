/-
  CONTRACT of ctl.readWindow.
-/
import Derived.Test.YtpiiodnhiolfbaaDoorCtlE
namespace Go.Proofs.YtpiiodnhiolfbaaDoor
open Go.ChangeShapes Go.WideShapes Go.ChangeAt Go.RowKit
set_option linter.unusedVariables false
set_option linter.unusedSimpArgs false

set_option maxRecDepth 100000 in
set_option maxHeartbeats 8000000 in
theorem rw_shape (A : Option Addr) (n c : Nat) (xs : List Int) (k : Int) (size : Int) (E : Nat → Addr) (w : World) (h : RowB .u8 w A n xs) (hS : Sent w E S4) (hsz : 20 ≤ size) (hnc : n ≤ c) (hb : begC xs n k size = 0) (hf : shB xs = false) :
    Calls Tryd.prog 38 #[.slice A n c, .int .u8 k, .int .i64 size] w fun e w' => e = .returned (.tuple #[b0.val, errP (E 102)]) ∧ Below w.heap.size w w' := by
  obtain ⟨hn, hk⟩ := begC_fine hb (by omega)
  have HB := Lib.hid ((Below.refl w.heap.size w).alloc (Nat.le_refl _) (.cells b0.cells 25))
  have HC := Lib.hid (begins_any A n c xs k size E _ (h.below HB.out) (hS.below HB.out))
  rw [hb, errV_zero] at HC
  have HG := Lib.hid (heap_alloc_last w (.cells b0.cells 25))
  have HR := Lib.hid (h.below HB.out)
  obtain ⟨b, off, rfl, hc⟩ := HR.out.cells (by omega)
  have hle := h.le
  unfold maxLen at hle
  have hn20 : (20 : Int) ≤ (n : Int) := by omega
  have hnc' : (n : Int) ≤ (c : Int) := by omega
  have hN := Lib.hid (show 20 ≤ n by omega)
  have HT := Lib.hid (number_off 16 b off n c xs (w.alloc (.cells b0.cells 25)) HR.out (by omega))
  have HU := Lib.hid (number_off 18 b off n c xs (w.alloc (.cells b0.cells 25)) HR.out (by omega))
  obtain ⟨t0, t1⟩ := numAt_wf HR.out 16 (by omega)
  obtain ⟨u0, u1⟩ := numAt_wf HR.out 18 (by omega)
  have he := hS.at_ 102 (by decide)
  simp only [gOf] at he
  generalize E 102 = a at *
  have HE0 := Lib.hid he
  clear hc h hb he
  go_enter Tryd.func38, Tryd.ntmps38
  go_wp2_with (fail)
  refine HC.out.mono ?_
  rintro e w2 ⟨rfl, rfl⟩
  have HL := Lib.hid (show w.heap.size < (w.alloc (.cells b0.cells 25)).heap.size by simp)
  generalize w.alloc (.cells b0.cells 25) = w1 at *
  clear HC
  go_wp2
  go_quiet ((go_at_call 40; exact quiet_left (number_off _ _ _ _ _ xs _ (HR.out.drewN _) (by have := hN.out; omega))))
  have HB2 := Lib.hid (below_drewN HB.out nq)
  have HG2 := Lib.hid (show (w1.drewN nq).heap[w.heap.size]? = some (.cells b0.cells 25 (0, 0)) from HG.out)
  have HR2 := Lib.hid (HR.out.drewN nq)
  have HL2 := Lib.hid (show w.heap.size < (w1.drewN nq).heap.size from HL.out)
  generalize w1.drewN nq = w2 at *
  clear HT HU HB HG HR HL
  have HV := Lib.hid (show ∀ w' : World, RowB .u8 w' (some ⟨b, off, none⟩) n xs → w'.cell? ⟨b, off + 1, none⟩ = some (.int .u8 (xs.getD 1 0)) ∧ w'.cell? ⟨b, off + 2, none⟩ = some (.int .u8 (xs.getD 2 0)) ∧ w'.cell? ⟨b, off + 3, none⟩ = some (.int .u8 (xs.getD 3 0)) from
    fun w' h => ⟨h.at_ 1 (by omega), h.at_ 2 (by omega), h.at_ 3 (by omega)⟩)
  have HSH := Lib.hid (show shB xs = (xs.getD 1 0 == 0 && xs.getD 2 0 == 0 && xs.getD 3 0 == 0 && numAt xs 16 % 4096 == 4 && numAt xs 18 % 16 == 0 && okTS (numAt xs 16 / 4096) (numAt xs 18 / 16)) from rfl)
  rw [hf] at HSH
  have HI := Lib.hid (inRange_any (numAt xs 16 / 4096) (numAt xs 18 / 16))
  generalize ht : numAt xs 16 = T at *
  generalize hu : numAt xs 18 = U at *
  have HTT := Lib.hid ht
  have HUU := Lib.hid hu
  clear ht hu hk hf hS
  generalize xs.getD 1 0 = v1 at *
  generalize xs.getD 2 0 = v2 at *
  generalize xs.getD 3 0 = v3 at *
  generalize okTS (T / 4096) (U / 16) = ok at *
  have b1 : (1 : Int) < (n : Int) := by omega
  have b2 : (2 : Int) < (n : Int) := by omega
  have b3 : (3 : Int) < (n : Int) := by omega
  have HA3 := Lib.hid ((Below.refl w2.heap.size w2).alloc (Nat.le_refl _) (.cells (Brf.mk ⟨0, 0, 0, 0, 0, 0⟩ ⟨0, 0, 0, 0, 0, 0⟩ (T / 4096) (U / 16)).cells 25))
  have HB3 := Lib.hid (HB2.out.trans (HA3.out.mono HB2.out.size))
  have HG3 := Lib.hid ((HA3.out.block _ HL2.out).trans HG2.out)
  have HR3 := Lib.hid (HR2.out.below HA3.out)
  have HF3 := Lib.hid (heap_alloc_last w2 (.cells (Brf.mk ⟨0, 0, 0, 0, 0, 0⟩ ⟨0, 0, 0, 0, 0, 0⟩ (T / 4096) (U / 16)).cells 25))
  cases e1 : (v1 == 0)
  · have fe1 : (v1 != 0) = true := by simpa [bne] using e1
    have HE2 := Lib.hid (cell?_alloc_old (.cells (Brf.mk ⟨0, 0, 0, 0, 0, 0⟩ ⟨0, 0, 0, 0, 0, 0⟩ (T / 4096) (U / 16)).cells 25) ((HB2.out.cell (cell_lt' HE0.out)).trans HE0.out))
    clear HSH HE0
    go_wp2_with (refine wpList_store_row rfl 25 (.tmp 11) (.tmp 30) rfl w2.heap.size (Brf.mk ⟨0, 0, 0, 0, 0, 0⟩ ⟨0, 0, 0, 0, 0, 0⟩ (T / 4096) (U / 16)).cells rfl rfl 25 b0.cells (heap_alloc_last _ _) sizeBar rfl (Brf.oneCell _) ?_; rw [World.setRow_alloc_new]; generalize World.alloc w2 _ = w3 at *; obtain ⟨c1, c2, c3⟩ := HV.out w3 HR3.out; have d12 := cell_of_row w3 w2.heap.size 12 _ _ _ HF3.out; have d13 := cell_of_row w3 w2.heap.size 13 _ _ _ HF3.out; dsimp only [Brf.cells] at d12 d13; have he := HE2.out)
    refine wp_region_held_drew (S := fun w' => w' = w3.drew) (by kernel_rfl) rfl (fun hHeld => ?_)
    refine wpAnyH_take (i := 0) (v := .agg b0.cells) rfl (by kernel_rfl) (by kernel_rfl) (by kernel_rfl) (fun _ _ _ h => h) (Or.inl ⟨by rfl, ?_⟩) (by assumption) ?_
    · intro w hSw
      go_simp
    refine wpAnyH_take (i := 1) (v := errP a) rfl (by kernel_rfl) (by kernel_rfl) (by kernel_rfl) (fun _ _ _ h => h) (Or.inl ⟨by rfl, ?_⟩) (by assumption) ?_
    · rintro w rfl
      go_simp
    refine wpAnyH_ready (rs := [2]) (by kernel_rfl) (by simp) ?_
    refine AllReadyH.cons rfl (fun K hK => ?_) AllReadyH.nil
    rw [if_pos (by rfl)]
    refine wp_store_row _ _ _ rfl w.heap.size b0.cells rfl rfl _ b0.cells HG3.out sizeBar rfl b0.oneCell ?_
    rw [setRow_same _ _ _ _ _ (show w3.drew.heap[w.heap.size]? = _ from HG3.out)]
    refine hK.out _ _ rfl (fun hHeld => ?_)
    refine wpAnyH_take (i := 3) (v := errP a) rfl (by kernel_rfl) (by kernel_rfl) (by kernel_rfl) (fun _ _ _ h => h) (Or.inl ⟨by rfl, ?_⟩) (by assumption) ?_
    · rintro w rfl
      go_simp
    refine wpAnyH_done (by kernel_rfl) ?_ _
    simp only [Act.put, List.setIfInBounds_toArray, List.set_cons_zero, List.set_cons_succ]
    go_wp2
    refine bodyPost_ret (v := .tuple #[.agg b0.cells, errP a]) (results_cell_slot (p := 6) (q := 7) Tryd.results38 _ _ w.heap.size _ b0.cells _ _ rfl (show w3.drew.heap[w.heap.size]? = _ from HG3.out) Tryd.underlying25 rfl sizeBar) rfl ⟨rfl, HB3.out.drew⟩
  have fe1 : (v1 != 0) = false := by simpa [bne] using e1
  cases e2 : (v2 == 0)
  · have fe2 : (v2 != 0) = true := by simpa [bne] using e2
    have HE2 := Lib.hid (cell?_alloc_old (.cells (Brf.mk ⟨0, 0, 0, 0, 0, 0⟩ ⟨0, 0, 0, 0, 0, 0⟩ (T / 4096) (U / 16)).cells 25) ((HB2.out.cell (cell_lt' HE0.out)).trans HE0.out))
    clear HSH HE0
    go_wp2_with (refine wpList_store_row rfl 25 (.tmp 11) (.tmp 30) rfl w2.heap.size (Brf.mk ⟨0, 0, 0, 0, 0, 0⟩ ⟨0, 0, 0, 0, 0, 0⟩ (T / 4096) (U / 16)).cells rfl rfl 25 b0.cells (heap_alloc_last _ _) sizeBar rfl (Brf.oneCell _) ?_; rw [World.setRow_alloc_new]; generalize World.alloc w2 _ = w3 at *; obtain ⟨c1, c2, c3⟩ := HV.out w3 HR3.out; have d12 := cell_of_row w3 w2.heap.size 12 _ _ _ HF3.out; have d13 := cell_of_row w3 w2.heap.size 13 _ _ _ HF3.out; dsimp only [Brf.cells] at d12 d13; have he := HE2.out)
    refine wp_region_held_drew (S := fun w' => w' = w3.drew) (by kernel_rfl) rfl (fun hHeld => ?_)
    refine wpAnyH_take (i := 0) (v := .agg b0.cells) rfl (by kernel_rfl) (by kernel_rfl) (by kernel_rfl) (fun _ _ _ h => h) (Or.inl ⟨by rfl, ?_⟩) (by assumption) ?_
    · intro w hSw
      go_simp
    refine wpAnyH_take (i := 1) (v := errP a) rfl (by kernel_rfl) (by kernel_rfl) (by kernel_rfl) (fun _ _ _ h => h) (Or.inl ⟨by rfl, ?_⟩) (by assumption) ?_
    · rintro w rfl
      go_simp
    refine wpAnyH_ready (rs := [2]) (by kernel_rfl) (by simp) ?_
    refine AllReadyH.cons rfl (fun K hK => ?_) AllReadyH.nil
    rw [if_pos (by rfl)]
    refine wp_store_row _ _ _ rfl w.heap.size b0.cells rfl rfl _ b0.cells HG3.out sizeBar rfl b0.oneCell ?_
    rw [setRow_same _ _ _ _ _ (show w3.drew.heap[w.heap.size]? = _ from HG3.out)]
    refine hK.out _ _ rfl (fun hHeld => ?_)
    refine wpAnyH_take (i := 3) (v := errP a) rfl (by kernel_rfl) (by kernel_rfl) (by kernel_rfl) (fun _ _ _ h => h) (Or.inl ⟨by rfl, ?_⟩) (by assumption) ?_
    · rintro w rfl
      go_simp
    refine wpAnyH_done (by kernel_rfl) ?_ _
    simp only [Act.put, List.setIfInBounds_toArray, List.set_cons_zero, List.set_cons_succ]
    go_wp2
    refine bodyPost_ret (v := .tuple #[.agg b0.cells, errP a]) (results_cell_slot (p := 6) (q := 7) Tryd.results38 _ _ w.heap.size _ b0.cells _ _ rfl (show w3.drew.heap[w.heap.size]? = _ from HG3.out) Tryd.underlying25 rfl sizeBar) rfl ⟨rfl, HB3.out.drew⟩
  have fe2 : (v2 != 0) = false := by simpa [bne] using e2
  cases e3 : (v3 == 0)
  · have fe3 : (v3 != 0) = true := by simpa [bne] using e3
    have HE2 := Lib.hid (cell?_alloc_old (.cells (Brf.mk ⟨0, 0, 0, 0, 0, 0⟩ ⟨0, 0, 0, 0, 0, 0⟩ (T / 4096) (U / 16)).cells 25) ((HB2.out.cell (cell_lt' HE0.out)).trans HE0.out))
    clear HSH HE0
    go_wp2_with (refine wpList_store_row rfl 25 (.tmp 11) (.tmp 30) rfl w2.heap.size (Brf.mk ⟨0, 0, 0, 0, 0, 0⟩ ⟨0, 0, 0, 0, 0, 0⟩ (T / 4096) (U / 16)).cells rfl rfl 25 b0.cells (heap_alloc_last _ _) sizeBar rfl (Brf.oneCell _) ?_; rw [World.setRow_alloc_new]; generalize World.alloc w2 _ = w3 at *; obtain ⟨c1, c2, c3⟩ := HV.out w3 HR3.out; have d12 := cell_of_row w3 w2.heap.size 12 _ _ _ HF3.out; have d13 := cell_of_row w3 w2.heap.size 13 _ _ _ HF3.out; dsimp only [Brf.cells] at d12 d13; have he := HE2.out)
    refine wp_region_held_drew (S := fun w' => w' = w3.drew) (by kernel_rfl) rfl (fun hHeld => ?_)
    refine wpAnyH_take (i := 0) (v := .agg b0.cells) rfl (by kernel_rfl) (by kernel_rfl) (by kernel_rfl) (fun _ _ _ h => h) (Or.inl ⟨by rfl, ?_⟩) (by assumption) ?_
    · intro w hSw
      go_simp
    refine wpAnyH_take (i := 1) (v := errP a) rfl (by kernel_rfl) (by kernel_rfl) (by kernel_rfl) (fun _ _ _ h => h) (Or.inl ⟨by rfl, ?_⟩) (by assumption) ?_
    · rintro w rfl
      go_simp
    refine wpAnyH_ready (rs := [2]) (by kernel_rfl) (by simp) ?_
    refine AllReadyH.cons rfl (fun K hK => ?_) AllReadyH.nil
    rw [if_pos (by rfl)]
    refine wp_store_row _ _ _ rfl w.heap.size b0.cells rfl rfl _ b0.cells HG3.out sizeBar rfl b0.oneCell ?_
    rw [setRow_same _ _ _ _ _ (show w3.drew.heap[w.heap.size]? = _ from HG3.out)]
    refine hK.out _ _ rfl (fun hHeld => ?_)
    refine wpAnyH_take (i := 3) (v := errP a) rfl (by kernel_rfl) (by kernel_rfl) (by kernel_rfl) (fun _ _ _ h => h) (Or.inl ⟨by rfl, ?_⟩) (by assumption) ?_
    · rintro w rfl
      go_simp
    refine wpAnyH_done (by kernel_rfl) ?_ _
    simp only [Act.put, List.setIfInBounds_toArray, List.set_cons_zero, List.set_cons_succ]
    go_wp2
    refine bodyPost_ret (v := .tuple #[.agg b0.cells, errP a]) (results_cell_slot (p := 6) (q := 7) Tryd.results38 _ _ w.heap.size _ b0.cells _ _ rfl (show w3.drew.heap[w.heap.size]? = _ from HG3.out) Tryd.underlying25 rfl sizeBar) rfl ⟨rfl, HB3.out.drew⟩
  have fe3 : (v3 != 0) = false := by simpa [bne] using e3
  cases e4 : (T % 4096 == 4)
  · have fe4 : (T % 4096 != 4) = true := by simpa [bne] using e4
    have HE2 := Lib.hid (cell?_alloc_old (.cells (Brf.mk ⟨0, 0, 0, 0, 0, 0⟩ ⟨0, 0, 0, 0, 0, 0⟩ (T / 4096) (U / 16)).cells 25) ((HB2.out.cell (cell_lt' HE0.out)).trans HE0.out))
    clear HSH HE0
    go_wp2_with (refine wpList_store_row rfl 25 (.tmp 11) (.tmp 30) rfl w2.heap.size (Brf.mk ⟨0, 0, 0, 0, 0, 0⟩ ⟨0, 0, 0, 0, 0, 0⟩ (T / 4096) (U / 16)).cells rfl rfl 25 b0.cells (heap_alloc_last _ _) sizeBar rfl (Brf.oneCell _) ?_; rw [World.setRow_alloc_new]; generalize World.alloc w2 _ = w3 at *; obtain ⟨c1, c2, c3⟩ := HV.out w3 HR3.out; have d12 := cell_of_row w3 w2.heap.size 12 _ _ _ HF3.out; have d13 := cell_of_row w3 w2.heap.size 13 _ _ _ HF3.out; dsimp only [Brf.cells] at d12 d13; have he := HE2.out)
    refine wp_region_held_drew (S := fun w' => w' = w3.drew) (by kernel_rfl) rfl (fun hHeld => ?_)
    refine wpAnyH_take (i := 0) (v := .agg b0.cells) rfl (by kernel_rfl) (by kernel_rfl) (by kernel_rfl) (fun _ _ _ h => h) (Or.inl ⟨by rfl, ?_⟩) (by assumption) ?_
    · intro w hSw
      go_simp
    refine wpAnyH_take (i := 1) (v := errP a) rfl (by kernel_rfl) (by kernel_rfl) (by kernel_rfl) (fun _ _ _ h => h) (Or.inl ⟨by rfl, ?_⟩) (by assumption) ?_
    · rintro w rfl
      go_simp
    refine wpAnyH_ready (rs := [2]) (by kernel_rfl) (by simp) ?_
    refine AllReadyH.cons rfl (fun K hK => ?_) AllReadyH.nil
    rw [if_pos (by rfl)]
    refine wp_store_row _ _ _ rfl w.heap.size b0.cells rfl rfl _ b0.cells HG3.out sizeBar rfl b0.oneCell ?_
    rw [setRow_same _ _ _ _ _ (show w3.drew.heap[w.heap.size]? = _ from HG3.out)]
    refine hK.out _ _ rfl (fun hHeld => ?_)
    refine wpAnyH_take (i := 3) (v := errP a) rfl (by kernel_rfl) (by kernel_rfl) (by kernel_rfl) (fun _ _ _ h => h) (Or.inl ⟨by rfl, ?_⟩) (by assumption) ?_
    · rintro w rfl
      go_simp
    refine wpAnyH_done (by kernel_rfl) ?_ _
    simp only [Act.put, List.setIfInBounds_toArray, List.set_cons_zero, List.set_cons_succ]
    go_wp2
    refine bodyPost_ret (v := .tuple #[.agg b0.cells, errP a]) (results_cell_slot (p := 6) (q := 7) Tryd.results38 _ _ w.heap.size _ b0.cells _ _ rfl (show w3.drew.heap[w.heap.size]? = _ from HG3.out) Tryd.underlying25 rfl sizeBar) rfl ⟨rfl, HB3.out.drew⟩
  have fe4 : (T % 4096 != 4) = false := by simpa [bne] using e4
  cases e5 : (U % 16 == 0)
  · have fe5 : (U % 16 != 0) = true := by simpa [bne] using e5
    have HE2 := Lib.hid (cell?_alloc_old (.cells (Brf.mk ⟨0, 0, 0, 0, 0, 0⟩ ⟨0, 0, 0, 0, 0, 0⟩ (T / 4096) (U / 16)).cells 25) ((HB2.out.cell (cell_lt' HE0.out)).trans HE0.out))
    clear HSH HE0
    go_wp2_with (refine wpList_store_row rfl 25 (.tmp 11) (.tmp 30) rfl w2.heap.size (Brf.mk ⟨0, 0, 0, 0, 0, 0⟩ ⟨0, 0, 0, 0, 0, 0⟩ (T / 4096) (U / 16)).cells rfl rfl 25 b0.cells (heap_alloc_last _ _) sizeBar rfl (Brf.oneCell _) ?_; rw [World.setRow_alloc_new]; generalize World.alloc w2 _ = w3 at *; obtain ⟨c1, c2, c3⟩ := HV.out w3 HR3.out; have d12 := cell_of_row w3 w2.heap.size 12 _ _ _ HF3.out; have d13 := cell_of_row w3 w2.heap.size 13 _ _ _ HF3.out; dsimp only [Brf.cells] at d12 d13; have he := HE2.out)
    refine wp_region_held_drew (S := fun w' => w' = w3.drew) (by kernel_rfl) rfl (fun hHeld => ?_)
    refine wpAnyH_take (i := 0) (v := .agg b0.cells) rfl (by kernel_rfl) (by kernel_rfl) (by kernel_rfl) (fun _ _ _ h => h) (Or.inl ⟨by rfl, ?_⟩) (by assumption) ?_
    · intro w hSw
      go_simp
    refine wpAnyH_take (i := 1) (v := errP a) rfl (by kernel_rfl) (by kernel_rfl) (by kernel_rfl) (fun _ _ _ h => h) (Or.inl ⟨by rfl, ?_⟩) (by assumption) ?_
    · rintro w rfl
      go_simp
    refine wpAnyH_ready (rs := [2]) (by kernel_rfl) (by simp) ?_
    refine AllReadyH.cons rfl (fun K hK => ?_) AllReadyH.nil
    rw [if_pos (by rfl)]
    refine wp_store_row _ _ _ rfl w.heap.size b0.cells rfl rfl _ b0.cells HG3.out sizeBar rfl b0.oneCell ?_
    rw [setRow_same _ _ _ _ _ (show w3.drew.heap[w.heap.size]? = _ from HG3.out)]
    refine hK.out _ _ rfl (fun hHeld => ?_)
    refine wpAnyH_take (i := 3) (v := errP a) rfl (by kernel_rfl) (by kernel_rfl) (by kernel_rfl) (fun _ _ _ h => h) (Or.inl ⟨by rfl, ?_⟩) (by assumption) ?_
    · rintro w rfl
      go_simp
    refine wpAnyH_done (by kernel_rfl) ?_ _
    simp only [Act.put, List.setIfInBounds_toArray, List.set_cons_zero, List.set_cons_succ]
    go_wp2
    refine bodyPost_ret (v := .tuple #[.agg b0.cells, errP a]) (results_cell_slot (p := 6) (q := 7) Tryd.results38 _ _ w.heap.size _ b0.cells _ _ rfl (show w3.drew.heap[w.heap.size]? = _ from HG3.out) Tryd.underlying25 rfl sizeBar) rfl ⟨rfl, HB3.out.drew⟩
  have fe5 : (U % 16 != 0) = false := by simpa [bne] using e5
  have hok : ok = false := by rw [e1, e2, e3, e4, e5] at HSH; have := HSH.out; simpa using this.symm
  rw [hok] at HI
  have HE2 := Lib.hid (cell?_alloc_old (.cells (Brf.mk ⟨0, 0, 0, 0, 0, 0⟩ ⟨0, 0, 0, 0, 0, 0⟩ (T / 4096) (U / 16)).cells 25) ((HB2.out.cell (cell_lt' HE0.out)).trans HE0.out))
  clear HSH HE0
  go_wp2_with (refine wpList_store_row rfl 25 (.tmp 11) (.tmp 30) rfl w2.heap.size (Brf.mk ⟨0, 0, 0, 0, 0, 0⟩ ⟨0, 0, 0, 0, 0, 0⟩ (T / 4096) (U / 16)).cells rfl rfl 25 b0.cells (heap_alloc_last _ _) sizeBar rfl (Brf.oneCell _) ?_; rw [World.setRow_alloc_new]; generalize World.alloc w2 _ = w3 at *; obtain ⟨c1, c2, c3⟩ := HV.out w3 HR3.out; have d12 := cell_of_row w3 w2.heap.size 12 _ _ _ HF3.out; have d13 := cell_of_row w3 w2.heap.size 13 _ _ _ HF3.out; dsimp only [Brf.cells] at d12 d13; have he := HE2.out)
  refine (HI.out _).mono ?_
  rintro e w4 ⟨rfl, rfl⟩
  go_wp2_with (fail)
  refine wp_region_held_drew (S := fun w' => w' = w3.drew) (by kernel_rfl) rfl (fun hHeld => ?_)
  refine wpAnyH_take (i := 0) (v := .agg b0.cells) rfl (by kernel_rfl) (by kernel_rfl) (by kernel_rfl) (fun _ _ _ h => h) (Or.inl ⟨by rfl, ?_⟩) (by assumption) ?_
  · intro w hSw
    go_simp
  refine wpAnyH_take (i := 1) (v := errP a) rfl (by kernel_rfl) (by kernel_rfl) (by kernel_rfl) (fun _ _ _ h => h) (Or.inl ⟨by rfl, ?_⟩) (by assumption) ?_
  · rintro w rfl
    go_simp
  refine wpAnyH_ready (rs := [2]) (by kernel_rfl) (by simp) ?_
  refine AllReadyH.cons rfl (fun K hK => ?_) AllReadyH.nil
  rw [if_pos (by rfl)]
  refine wp_store_row _ _ _ rfl w.heap.size b0.cells rfl rfl _ b0.cells HG3.out sizeBar rfl b0.oneCell ?_
  rw [setRow_same _ _ _ _ _ (show w3.drew.heap[w.heap.size]? = _ from HG3.out)]
  refine hK.out _ _ rfl (fun hHeld => ?_)
  refine wpAnyH_take (i := 3) (v := errP a) rfl (by kernel_rfl) (by kernel_rfl) (by kernel_rfl) (fun _ _ _ h => h) (Or.inl ⟨by rfl, ?_⟩) (by assumption) ?_
  · rintro w rfl
    go_simp
  refine wpAnyH_done (by kernel_rfl) ?_ _
  simp only [Act.put, List.setIfInBounds_toArray, List.set_cons_zero, List.set_cons_succ]
  go_wp2
  refine bodyPost_ret (v := .tuple #[.agg b0.cells, errP a]) (results_cell_slot (p := 6) (q := 7) Tryd.results38 _ _ w.heap.size _ b0.cells _ _ rfl (show w3.drew.heap[w.heap.size]? = _ from HG3.out) Tryd.underlying25 rfl sizeBar) rfl ⟨rfl, HB3.out.drew⟩
end Go.Proofs.YtpiiodnhiolfbaaDoor
