/-
  CONTRACT of the reference's ReadBar.
-/
import Derived.Test.YtpiiodnhiolfbaaDoorCtlU
namespace Go.Proofs.YtpiiodnhiolfbaaDoor
open Go.ChangeShapes Go.WideShapes Go.ChangeAt Go.RowKit
set_option linter.unusedVariables false
set_option linter.unusedSimpArgs false

theorem six_drop (xs : List Int) (o : Nat) : six (xs.drop o) 0 = six xs o := by unfold six; simp [List.getD]
theorem six_off (o : Nat) (b off n c : Nat) (xs : List Int) (w : World) (h : RowB .u8 w (some ⟨b, off, none⟩) n xs) (ho : o + 6 ≤ n) :
    Calls Tryd.prog 42 #[.slice (some ⟨b, off + o, none⟩) (n - o) (c - o)] w fun e w' => e = .returned (six xs o).val ∧ Below w.heap.size w w' := by
  have := six_any b (off + o) (n - o) (c - o) (xs.drop o) w (drop_row h o (by omega)) (by omega)
  rwa [six_drop] at this
theorem num_off (o : Nat) (b off n c : Nat) (xs : List Int) (w : World) (h : RowB .u8 w (some ⟨b, off, none⟩) n xs) (ho : o + 2 ≤ n) :
    Calls Tryd.prog 43 #[.slice (some ⟨b, off + o, none⟩) (n - o) (c - o)] w fun e w' => e = .returned (.int .i64 (numAt xs o)) ∧ Below w.heap.size w w' := by
  have := num_any b (off + o) (n - o) (c - o) (xs.drop o) w (drop_row h o (by omega)) (by omega)
  rw [drop_getD, drop_getD] at this
  refine this.mono ?_
  rintro e w' ⟨rfl, m, rfl⟩
  exact ⟨rfl, below_drewN (Below.refl _ _) _⟩

theorem six_wf {xs : List Int} {n : Nat} (o : Nat) (ho : o + 6 ≤ n) (h : ∀ i, i < n → 0 ≤ xs.getD i 0 ∧ xs.getD i 0 ≤ 255) : (six xs o).wf := by
  intro x hx
  simp only [six, A6.l, List.mem_cons, List.not_mem_nil, or_false] at hx
  rcases hx with rfl | rfl | rfl | rfl | rfl | rfl <;> exact h _ (by omega)
theorem rdW_bad {xs : List Int} {n : Nat} {k size : Int} (hb : begC xs n k size = 0) (hf : shB xs = false) : Ending.returned (.tuple #[(outW xs n k size).val, .int .i64 (rdW xs n k size : Nat)]) = .returned (.tuple #[b0.val, .int .i64 102]) := by
  rw [outW, if_neg (by rw [rdW_shape hb hf]; decide), rdW_shape hb hf]; rfl
theorem rdW_ok {xs : List Int} {n : Nat} {k size : Int} (hb : begC xs n k size = 0) (hf : shB xs = true) : Ending.returned (.tuple #[(outW xs n k size).val, .int .i64 (rdW xs n k size : Nat)]) = .returned (.tuple #[(decW xs).val, .int .i64 0]) := by
  rw [outW, if_pos (rdW_good hb hf), rdW_good hb hf]; rfl
set_option maxRecDepth 100000 in
set_option maxHeartbeats 16000000 in
theorem refReadBar_beg (A : Option Addr) (n c : Nat) (xs : List Int) (w : World) (h : RowB .u8 w A n xs) (hb : begC xs n 132 20 ≠ 0) :
    Calls Tryd.prog 20 #[.slice A n c] w fun e w' => e = .returned (.tuple #[.agg b0.cells, .int .i64 (begC xs n 132 20 : Nat)]) ∧ Below w.heap.size w w' := by
  have HB := Lib.hid ((Below.refl w.heap.size w).alloc (Nat.le_refl _) (.cells b0.cells 25))
  have HC := Lib.hid (kind_any A n c xs 132 20 _ (h.below HB.out))
  have hne : (((begC xs n 132 20 : Nat) : Int) != 0) = true := by simp; omega
  generalize begC xs n 132 20 = m at *
  have HG := Lib.hid (heap_alloc_last w (.cells b0.cells 25))
  clear h hb
  go_enter Tryd.func20, Tryd.ntmps20
  go_wp2_with (fail)
  refine HC.out.mono ?_
  rintro e w2 ⟨rfl, rfl⟩
  generalize w.alloc (.cells b0.cells 25) = w1 at *
  go_wp2_with (refine wpList_store_row rfl 25 (.tmp 2) (.tmp 12) rfl w.heap.size b0.cells rfl rfl 25 b0.cells HG.out sizeBar rfl (Brf.oneCell _) ?_; rw [setRow_same _ _ _ _ _ HG.out])
  refine bodyPost_ret (v := .tuple #[.agg b0.cells, .int .i64 (m : Nat)]) (results_cell_slot (p := 2) (q := 3) Tryd.results20 _ _ w.heap.size _ b0.cells _ _ rfl HG.out Tryd.underlying25 rfl sizeBar) rfl ⟨rfl, HB.out⟩

set_option maxRecDepth 100000 in
set_option maxHeartbeats 16000000 in
theorem refReadBar_fit (A : Option Addr) (n c : Nat) (xs : List Int) (w : World) (h : RowB .u8 w A n xs) (hnc : n ≤ c) (hb : begC xs n 132 20 = 0) :
    Calls Tryd.prog 20 #[.slice A n c] w fun e w' => e = .returned (.tuple #[(outW xs n 132 20).val, .int .i64 (rdW xs n 132 20 : Nat)]) ∧ Below w.heap.size w w' := by
  obtain ⟨hn, hk⟩ := begC_fine hb (by omega)
  have hn1 : n = 20 := by omega
  subst hn1
  have HB := Lib.hid ((Below.refl w.heap.size w).alloc (Nat.le_refl _) (.cells b0.cells 25))
  have HR := Lib.hid (h.below HB.out)
  have HC := Lib.hid (kind_any A 20 c xs 132 20 _ HR.out)
  rw [hb] at HC
  have HG := Lib.hid (heap_alloc_last w (.cells b0.cells 25))
  have HLT := Lib.hid (show w.heap.size < (w.alloc (.cells b0.cells 25)).heap.size by simp)
  have HW := Lib.hid (show ∀ i, i < 20 → 0 ≤ xs.getD i 0 ∧ xs.getD i 0 ≤ 255 from fun i hi => h.wf8 i hi)
  have HLN := Lib.hid h.len
  have HK := Lib.hid hk
  obtain ⟨b, off, rfl, _⟩ := HR.out.cells (by omega)
  have hnc' : (20 : Int) ≤ (c : Int) := by omega
  clear h hk hn
  go_enter Tryd.func20, Tryd.ntmps20
  go_wp2_with (fail)
  refine HC.out.mono ?_
  rintro e w2 ⟨rfl, rfl⟩
  generalize w.alloc (.cells b0.cells 25) = w1 at *
  clear HC
  have HS4 := Lib.hid (show ∀ w' : World, Below w1.heap.size w1 w' → Calls Tryd.prog 42 #[.slice (some ⟨b, off + 4, none⟩) (20 - 4) (c - 4)] w' fun e w'' => e = .returned (six xs 4).val ∧ Below w'.heap.size w' w'' from
    fun w' hb => six_off 4 b off 20 c xs w' (HR.out.below hb) (by omega))
  have HS10 := Lib.hid (show ∀ w' : World, Below w1.heap.size w1 w' → Calls Tryd.prog 42 #[.slice (some ⟨b, off + 10, none⟩) (20 - 10) (c - 10)] w' fun e w'' => e = .returned (six xs 10).val ∧ Below w'.heap.size w' w'' from
    fun w' hb => six_off 10 b off 20 c xs w' (HR.out.below hb) (by omega))
  have HN16 := Lib.hid (show ∀ w' : World, Below w1.heap.size w1 w' → Calls Tryd.prog 43 #[.slice (some ⟨b, off + 16, none⟩) (20 - 16) (c - 16)] w' fun e w'' => e = .returned (.int .i64 (numAt xs 16)) ∧ Below w'.heap.size w' w'' from
    fun w' hb => num_off 16 b off 20 c xs w' (HR.out.below hb) (by omega))
  have HN18 := Lib.hid (show ∀ w' : World, Below w1.heap.size w1 w' → Calls Tryd.prog 43 #[.slice (some ⟨b, off + 18, none⟩) (20 - 18) (c - 18)] w' fun e w'' => e = .returned (.int .i64 (numAt xs 18)) ∧ Below w'.heap.size w' w'' from
    fun w' hb => num_off 18 b off 20 c xs w' (HR.out.below hb) (by omega))
  have HSH := Lib.hid (show shB xs = (xs.getD 1 0 == 0 && xs.getD 2 0 == 0 && xs.getD 3 0 == 0 && numAt xs 16 % 4096 == 4 && numAt xs 18 % 16 == 0 && okTS (numAt xs 16 / 4096) (numAt xs 18 / 16)) from rfl)
  have HSB := Lib.hid (fun hok => sameB_W xs 132 HLN.out HW.out HK.out hok)
  have HDEC := Lib.hid (show decW xs = ⟨six xs 4, six xs 10, numAt xs 16 / 4096, numAt xs 18 / 16⟩ from rfl)
  obtain ⟨t0, t1⟩ := numAt_wf HR.out 16 (by omega)
  obtain ⟨u0, u1⟩ := numAt_wf HR.out 18 (by omega)
  have HENC := Lib.hid (fun hok => all_wf rfl (encW_mem 132 (six xs 4) (six xs 10) (numAt xs 16 / 4096) (numAt xs 18 / 16) (by omega) (six_wf 4 (by omega) HW.out) (six_wf 10 (by omega) HW.out) hok))
  generalize numAt xs 16 = T at *
  generalize numAt xs 18 = U at *
  have x3 : IntKind.i64.wrap (T.tdiv 4096) = T / 4096 := by rw [Int.tdiv_eq_ediv_of_nonneg (by omega)]; exact IntWalk.i64_in _ ⟨by omega, by omega⟩
  have x4 : IntKind.i64.wrap (U.tdiv 16) = U / 16 := by rw [Int.tdiv_eq_ediv_of_nonneg (by omega)]; exact IntWalk.i64_in _ ⟨by omega, by omega⟩
  have d4 : (c = 4) = False := by simp; omega
  have d10 : (c = 10) = False := by simp; omega
  have d16 : (c = 16) = False := by simp; omega
  have d18 : (c = 18) = False := by simp; omega
  go_wp2
  rename_i h9 K9 a9
  have KEY : ∀ (w5 : World) (h4 : Nat), Hid (Below w1.heap.size w1 w5) → Hid (w1.heap.size ≤ h4) → Hid (w5.heap[h4]? = some (.cells (Brf.mk (six xs 4) (six xs 10) (T / 4096) (U / 16)).cells 25 (0, 0))) → Exit.then K9 (bodyPost Tryd.prog Tryd.f20 fun e w' => e = .returned (.tuple #[(outW xs 20 132 20).val, .int .i64 (rdW xs 20 132 20 : Nat)]) ∧ Below w.heap.size w w') .normal { tmps := #[.slice (some ⟨b, off, none⟩) 20 c, undef, .pointer (some ⟨w.heap.size, 0, none⟩), .int .i64 0, .int .i64 0, .pointer (some ⟨h4, 0, none⟩), undef, undef, .slice (some ⟨b, off, none⟩) 20 c, .int .i64 0, .int .i64 0, .bool false, undef, undef, .slice (some ⟨b, off, none⟩) 20 c, .slice (some ⟨b, off + 4, none⟩) (20 - 4) (c - 4), .agg (six xs 4).cells, .slice (some ⟨b, off, none⟩) 20 c, .slice (some ⟨b, off + 10, none⟩) (20 - 10) (c - 10), .agg (six xs 10).cells, .slice (some ⟨b, off, none⟩) 20 c, .slice (some ⟨b, off + 16, none⟩) (20 - 16) (c - 16), .int .i64 T, .int .i64 (T / 4096), .slice (some ⟨b, off, none⟩) 20 c, .slice (some ⟨b, off + 18, none⟩) (20 - 18) (c - 18), .int .i64 U, .int .i64 (U / 16), .agg (Brf.mk (six xs 4) (six xs 10) (T / 4096) (U / 16)).cells, undef, undef, undef, undef, undef, undef, undef, undef, undef, undef, undef, undef, undef, undef, undef], defers := [] } w5 := by
    intro w5 h4 HB5 HH5 HF5
    have HG5 := Lib.hid ((HB5.out.block _ HLT.out).trans HG.out)
    have HBA := Lib.hid (HB.out.trans (HB5.out.mono HB.out.size))
    have HH4 := Lib.hid (show h4 < w5.heap.size from by
      by_cases hp : h4 < w5.heap.size
      · exact hp
      · have := HF5.out; rw [Array.getElem?_eq_none (Nat.le_of_not_lt hp)] at this; cases this)
    have HG5L := Lib.hid (Nat.lt_of_lt_of_le HLT.out HB5.out.size)
    have HR5 := Lib.hid (HR.out.below HB5.out)
    go_wp2_with (refine wpList_load_row rfl 25 (.tmp 5) rfl h4 rfl 25 (Brf.mk (six xs 4) (six xs 10) (T / 4096) (U / 16)).cells (0, 0) _ HF5.out Tryd.underlying25 rfl sizeBar ?_)
    cases hok : okTS (T / 4096) (U / 16)
    · refine (refBar_no (Brf.mk (six xs 4) (six xs 10) (T / 4096) (U / 16)) w5 hok).mono ?_
      rintro e w6 ⟨rfl, hB⟩
      have HBX := Lib.hid (HBA.out.trans (hB.mono HBA.out.size))
      have HGX := Lib.hid ((hB.block _ HG5L.out).trans HG5.out)
      have HFX := Lib.hid ((hB.block _ HH4.out).trans HF5.out)
      have HRX := Lib.hid (HR5.out.below hB)
      clear hB
      have hfalse : shB xs = false := by rw [HSH.out, hok]; simp
      go_wp2_with (refine wpList_store_row rfl 25 (.tmp 2) (.tmp 42) rfl w.heap.size b0.cells rfl rfl 25 b0.cells HGX.out sizeBar rfl (Brf.oneCell _) ?_; rw [setRow_same _ _ _ _ _ HGX.out])
      refine bodyPost_ret (v := .tuple #[.agg b0.cells, .int .i64 102]) (results_cell_slot (p := 2) (q := 3) Tryd.results20 _ _ w.heap.size _ b0.cells _ _ rfl HGX.out Tryd.underlying25 rfl sizeBar) rfl ⟨by rw [rdW_bad hb hfalse], HBX.out⟩
    · refine (refBar_yes (Brf.mk (six xs 4) (six xs 10) (T / 4096) (U / 16)) w5 hok).mono ?_
      rintro e w6 ⟨g, cap, rfl, hO, hB⟩
      have HBX := Lib.hid (HBA.out.trans (hB.mono HBA.out.size))
      have HGX := Lib.hid ((hB.block _ HG5L.out).trans HG5.out)
      have HFX := Lib.hid ((hB.block _ HH4.out).trans HF5.out)
      have HRX := Lib.hid (HR5.out.below hB)
      have HY := Lib.hid (hO.row8 (HENC.out hok))
      have HSM := Lib.hid (HSB.out hok)
      clear hB hO
      go_wp2_with (fail)
      refine (same_any _ _ 20 c 20 cap xs (encW 132 (six xs 4) (six xs 10) (T / 4096) (U / 16)) w6 HRX.out HY.out).mono ?_
      rintro e w7 ⟨rfl, m, rfl⟩
      rw [HSM.out]
      have HBt := Lib.hid (below_drewN HBX.out m)
      have HGt := Lib.hid (show (w6.drewN m).heap[w.heap.size]? = some (.cells b0.cells 25 (0, 0)) from HGX.out)
      have HFt := Lib.hid (show (w6.drewN m).heap[h4]? = some (.cells (Brf.mk (six xs 4) (six xs 10) (T / 4096) (U / 16)).cells 25 (0, 0)) from HFX.out)
      clear HBX HGX HFX
      have HBX := HBt
      have HGX := HGt
      have HFX := HFt
      clear HBt HGt HFt
      generalize w6.drewN m = w7 at *
      cases hsh : shB xs
      · go_wp2_with (refine wpList_store_row rfl 25 (.tmp 2) (.tmp 42) rfl w.heap.size b0.cells rfl rfl 25 b0.cells HGX.out sizeBar rfl (Brf.oneCell _) ?_; rw [setRow_same _ _ _ _ _ HGX.out])
        refine bodyPost_ret (v := .tuple #[.agg b0.cells, .int .i64 102]) (results_cell_slot (p := 2) (q := 3) Tryd.results20 _ _ w.heap.size _ b0.cells _ _ rfl HGX.out Tryd.underlying25 rfl sizeBar) rfl ⟨by rw [rdW_bad hb hsh], HBX.out⟩
      · go_wp2_with (first | (refine wpList_load_row rfl 25 (.tmp 5) rfl h4 rfl 25 (Brf.mk (six xs 4) (six xs 10) (T / 4096) (U / 16)).cells (0, 0) _ HFX.out Tryd.underlying25 rfl sizeBar ?_) | (refine wpList_store_row rfl 25 (.tmp 2) (.tmp 43) rfl w.heap.size (Brf.mk (six xs 4) (six xs 10) (T / 4096) (U / 16)).cells rfl rfl 25 b0.cells HGX.out sizeBar rfl (Brf.oneCell _) ?_))
        have HGz := Lib.hid (setRow_heap w7 w.heap.size b0.cells (Brf.mk (six xs 4) (six xs 10) (T / 4096) (U / 16)).cells 25 (0, 0) HGX.out)
        refine bodyPost_ret (v := .tuple #[.agg (Brf.mk (six xs 4) (six xs 10) (T / 4096) (U / 16)).cells, .int .i64 0]) (results_cell_slot (p := 2) (q := 3) Tryd.results20 _ _ w.heap.size _ (Brf.mk (six xs 4) (six xs 10) (T / 4096) (U / 16)).cells _ _ rfl HGz.out Tryd.underlying25 rfl sizeBar) rfl ⟨by rw [rdW_ok hb hsh, HDEC.out], below_setRow HBX.out (Nat.le_refl _) _⟩
  refine wp_region_held_drew (S := fun w' => Below w1.heap.size w1 w') (by kernel_rfl) (Below.refl _ _).drew (fun hHeld => ?_)
  clear HB HG HSB
  generalize World.drew w1 = w2 at *
  have HB2 := Lib.hid hHeld
  refine wpAnyH_take (i := 0) (v := ?_) rfl (by kernel_rfl) (by kernel_rfl) (by kernel_rfl) (fun _ _ _ h => h) (Or.inl ⟨by rfl, ?_⟩) (by assumption) ?_
  rotate_left
  · intro w hSw
    clear hSw
    go_simp
    try with_reducible rfl
  try simp only [Act.put, List.getElem_toArray, List.getElem_cons_zero, List.getElem_cons_succ, List.setIfInBounds_toArray, List.set_cons_zero, List.set_cons_succ]
  refine wpAnyH_take (i := 1) (v := ?_) rfl (by kernel_rfl) (by kernel_rfl) (by kernel_rfl) (fun _ _ _ h => h) (Or.inl ⟨by rfl, ?_⟩) (by assumption) ?_
  rotate_left
  · intro w hSw
    clear hSw
    go_simp
    try with_reducible rfl
  try simp only [Act.put, List.getElem_toArray, List.getElem_cons_zero, List.getElem_cons_succ, List.setIfInBounds_toArray, List.set_cons_zero, List.set_cons_succ]
  refine wpAnyH_take (i := 3) (v := ?_) rfl (by kernel_rfl) (by kernel_rfl) (by kernel_rfl) (fun _ _ _ h => h) (Or.inl ⟨by rfl, ?_⟩) (by assumption) ?_
  rotate_left
  · intro w hSw
    clear hSw
    go_simp
    try with_reducible rfl
  try simp only [Act.put, List.getElem_toArray, List.getElem_cons_zero, List.getElem_cons_succ, List.setIfInBounds_toArray, List.set_cons_zero, List.set_cons_succ]
  refine wpAnyH_take (i := 4) (v := ?_) rfl (by kernel_rfl) (by kernel_rfl) (by kernel_rfl) (fun _ _ _ h => h) (Or.inl ⟨by rfl, ?_⟩) (by assumption) ?_
  rotate_left
  · intro w hSw
    clear hSw
    go_simp
    try with_reducible rfl
  try simp only [Act.put, List.getElem_toArray, List.getElem_cons_zero, List.getElem_cons_succ, List.setIfInBounds_toArray, List.set_cons_zero, List.set_cons_succ]
  refine wpAnyH_take (i := 6) (v := ?_) rfl (by kernel_rfl) (by kernel_rfl) (by kernel_rfl) (fun _ _ _ h => h) (Or.inl ⟨by rfl, ?_⟩) (by assumption) ?_
  rotate_left
  · intro w hSw
    clear hSw
    go_simp
    try with_reducible rfl
  try simp only [Act.put, List.getElem_toArray, List.getElem_cons_zero, List.getElem_cons_succ, List.setIfInBounds_toArray, List.set_cons_zero, List.set_cons_succ]
  refine wpAnyH_take (i := 7) (v := ?_) rfl (by kernel_rfl) (by kernel_rfl) (by kernel_rfl) (fun _ _ _ h => h) (Or.inl ⟨by rfl, ?_⟩) (by assumption) ?_
  rotate_left
  · intro w hSw
    clear hSw
    go_simp
    try with_reducible rfl
  try simp only [Act.put, List.getElem_toArray, List.getElem_cons_zero, List.getElem_cons_succ, List.setIfInBounds_toArray, List.set_cons_zero, List.set_cons_succ]
  refine wpAnyH_take (i := 10) (v := ?_) rfl (by kernel_rfl) (by kernel_rfl) (by kernel_rfl) (fun _ _ _ h => h) (Or.inl ⟨by rfl, ?_⟩) (by assumption) ?_
  rotate_left
  · intro w hSw
    clear hSw
    go_simp
    try with_reducible rfl
  try simp only [Act.put, List.getElem_toArray, List.getElem_cons_zero, List.getElem_cons_succ, List.setIfInBounds_toArray, List.set_cons_zero, List.set_cons_succ]
  refine wpAnyH_take (i := 11) (v := ?_) rfl (by kernel_rfl) (by kernel_rfl) (by kernel_rfl) (fun _ _ _ h => h) (Or.inl ⟨by rfl, ?_⟩) (by assumption) ?_
  rotate_left
  · intro w hSw
    clear hSw
    go_simp
    try with_reducible rfl
  try simp only [Act.put, List.getElem_toArray, List.getElem_cons_zero, List.getElem_cons_succ, List.setIfInBounds_toArray, List.set_cons_zero, List.set_cons_succ]
  refine wpAnyH_ready (rs := [2, 15]) (by kernel_rfl) (by simp) ?_
  refine AllReadyH.cons rfl (fun K hK => ?_) (AllReadyH.cons rfl (fun K hK => ?_) AllReadyH.nil)
  · go_simp
    refine (HS4.out _ HB2.out).mono ?_
    rintro e' w11 ⟨rfl, hb⟩
    have HB11 := Lib.hid (HB2.out.trans (hb.mono HB2.out.size))
    clear hb hHeld
    refine hK.out _ _ HB11.out (fun hHeld => ?_)
    clear hK K
    try simp only [Act.put, List.getElem_toArray, List.getElem_cons_zero, List.getElem_cons_succ, List.setIfInBounds_toArray, List.set_cons_zero, List.set_cons_succ]
    refine wpAnyH_ready (rs := [5, 15]) (by kernel_rfl) (by simp) ?_
    refine AllReadyH.cons rfl (fun K hK => ?_) (AllReadyH.cons rfl (fun K hK => ?_) AllReadyH.nil)
    · go_simp
      refine (HS10.out _ HB11.out).mono ?_
      rintro e' w13 ⟨rfl, hb⟩
      have HB13 := Lib.hid (HB11.out.trans (hb.mono HB11.out.size))
      clear hb hHeld
      refine hK.out _ _ HB13.out (fun hHeld => ?_)
      clear hK K
      try simp only [Act.put, List.getElem_toArray, List.getElem_cons_zero, List.getElem_cons_succ, List.setIfInBounds_toArray, List.set_cons_zero, List.set_cons_succ]
      refine wpAnyH_ready (rs := [8, 15]) (by kernel_rfl) (by simp) ?_
      refine AllReadyH.cons rfl (fun K hK => ?_) (AllReadyH.cons rfl (fun K hK => ?_) AllReadyH.nil)
      · go_simp
        refine (HN16.out _ HB13.out).mono ?_
        rintro e' w15 ⟨rfl, hb⟩
        have HB15 := Lib.hid (HB13.out.trans (hb.mono HB13.out.size))
        clear hb hHeld
        refine hK.out _ _ HB15.out (fun hHeld => ?_)
        clear hK K
        try simp only [Act.put, List.getElem_toArray, List.getElem_cons_zero, List.getElem_cons_succ, List.setIfInBounds_toArray, List.set_cons_zero, List.set_cons_succ]
        refine wpAnyH_take (i := 9) (v := ?_) rfl (by kernel_rfl) (by kernel_rfl) (by kernel_rfl) (fun _ _ _ h => h) (Or.inl ⟨by rfl, ?_⟩) (by assumption) ?_
        rotate_left
        · intro w hSw
          clear hSw
          go_simp
          try with_reducible rfl
        try simp only [Act.put, List.getElem_toArray, List.getElem_cons_zero, List.getElem_cons_succ, List.setIfInBounds_toArray, List.set_cons_zero, List.set_cons_succ]
        refine wpAnyH_ready (rs := [12, 15]) (by kernel_rfl) (by simp) ?_
        refine AllReadyH.cons rfl (fun K hK => ?_) (AllReadyH.cons rfl (fun K hK => ?_) AllReadyH.nil)
        · go_simp
          refine (HN18.out _ HB15.out).mono ?_
          rintro e' w17 ⟨rfl, hb⟩
          have HB17 := Lib.hid (HB15.out.trans (hb.mono HB15.out.size))
          clear hb hHeld
          refine hK.out _ _ HB17.out (fun hHeld => ?_)
          clear hK K
          try simp only [Act.put, List.getElem_toArray, List.getElem_cons_zero, List.getElem_cons_succ, List.setIfInBounds_toArray, List.set_cons_zero, List.set_cons_succ]
          refine wpAnyH_take (i := 13) (v := ?_) rfl (by kernel_rfl) (by kernel_rfl) (by kernel_rfl) (fun _ _ _ h => h) (Or.inl ⟨by rfl, ?_⟩) (by assumption) ?_
          rotate_left
          · intro w hSw
            clear hSw
            go_simp
            try with_reducible rfl
          try simp only [Act.put, List.getElem_toArray, List.getElem_cons_zero, List.getElem_cons_succ, List.setIfInBounds_toArray, List.set_cons_zero, List.set_cons_succ]
          refine wpAnyH_take (i := 14) (v := .agg (Brf.mk (six xs 4) (six xs 10) (T / 4096) (U / 16)).cells) rfl (by kernel_rfl) (by kernel_rfl) (by kernel_rfl) (fun _ _ _ h => h) (Or.inl ⟨by rfl, ?_⟩) (by assumption) ?_
          · intro w hSw
            clear hSw
            go_simp
          try simp only [Act.put, List.getElem_toArray, List.getElem_cons_zero, List.getElem_cons_succ, List.setIfInBounds_toArray, List.set_cons_zero, List.set_cons_succ]
          refine wpAnyH_ready (rs := [15]) (by kernel_rfl) (by simp) ?_
          refine AllReadyH.cons rfl (fun K hK => ?_) AllReadyH.nil
          have HZ19 := Lib.hid (heap_alloc_last w17 (.cells b0.cells 25))
          have HB19 := Lib.hid (HB17.out.alloc HB17.out.size (.cells b0.cells 25))
          have HE19 := Lib.hid (show w17.heap.size < (w17.alloc (.cells b0.cells 25)).heap.size by simp)
          have HGE := Lib.hid HB17.out.size
          clear hHeld
          go_simp
          refine hK.out _ _ HB19.out (fun hHeld => ?_)
          clear hK K
          dsimp only [b0, Brf.cells] at HZ19 HB19 HE19 hHeld
          generalize World.alloc w17 _ = w19 at *
          generalize w17.heap.size = h4 at *
          try simp only [Act.put, List.getElem_toArray, List.getElem_cons_zero, List.getElem_cons_succ, List.setIfInBounds_toArray, List.set_cons_zero, List.set_cons_succ]
          refine wpAnyH_ready (rs := [16]) (by kernel_rfl) (by simp) ?_
          refine AllReadyH.cons rfl (fun K hK => ?_) AllReadyH.nil
          rw [if_pos (by rfl)]
          refine wp_store_row _ _ _ rfl _ (Brf.mk (six xs 4) (six xs 10) (T / 4096) (U / 16)).cells rfl rfl 25 b0.cells HZ19.out sizeBar rfl (Brf.oneCell _) ?_
          have HBZ := Lib.hid (below_setRow HB19.out HGE.out (Brf.mk (six xs 4) (six xs 10) (T / 4096) (U / 16)).cells)
          have HFZ := Lib.hid (setRow_heap _ _ _ (Brf.mk (six xs 4) (six xs 10) (T / 4096) (U / 16)).cells _ _ HZ19.out)
          clear hHeld
          refine hK.out _ _ HBZ.out (fun hHeld => ?_)
          clear hK K hHeld
          refine wpAnyH_done (by kernel_rfl) ?_ _
          try simp only [Act.put, List.getElem_toArray, List.getElem_cons_zero, List.getElem_cons_succ, List.setIfInBounds_toArray, List.set_cons_zero, List.set_cons_succ]
          exact KEY _ _ HBZ HGE HFZ
        · have HZ18 := Lib.hid (heap_alloc_last w15 (.cells b0.cells 25))
          have HB18 := Lib.hid (HB15.out.alloc HB15.out.size (.cells b0.cells 25))
          have HE18 := Lib.hid (show w15.heap.size < (w15.alloc (.cells b0.cells 25)).heap.size by simp)
          have HGE := Lib.hid HB15.out.size
          clear hHeld
          go_simp
          refine hK.out _ _ HB18.out (fun hHeld => ?_)
          clear hK K
          dsimp only [b0, Brf.cells] at HZ18 HB18 HE18 hHeld
          generalize World.alloc w15 _ = w18 at *
          generalize w15.heap.size = h4 at *
          try simp only [Act.put, List.getElem_toArray, List.getElem_cons_zero, List.getElem_cons_succ, List.setIfInBounds_toArray, List.set_cons_zero, List.set_cons_succ]
          refine wpAnyH_ready (rs := [12]) (by kernel_rfl) (by simp) ?_
          refine AllReadyH.cons rfl (fun K hK => ?_) AllReadyH.nil
          go_simp
          refine (HN18.out _ HB18.out).mono ?_
          rintro e' w20 ⟨rfl, hb⟩
          have HB20 := Lib.hid (HB18.out.trans (hb.mono HB18.out.size))
          have HZ20 := Lib.hid ((hb.block _ HE18.out).trans HZ18.out)
          have HE20 := Lib.hid (Nat.lt_of_lt_of_le HE18.out hb.size)
          clear hb hHeld
          refine hK.out _ _ HB20.out (fun hHeld => ?_)
          clear hK K
          try simp only [Act.put, List.getElem_toArray, List.getElem_cons_zero, List.getElem_cons_succ, List.setIfInBounds_toArray, List.set_cons_zero, List.set_cons_succ]
          refine wpAnyH_take (i := 13) (v := ?_) rfl (by kernel_rfl) (by kernel_rfl) (by kernel_rfl) (fun _ _ _ h => h) (Or.inl ⟨by rfl, ?_⟩) (by assumption) ?_
          rotate_left
          · intro w hSw
            clear hSw
            go_simp
            try with_reducible rfl
          try simp only [Act.put, List.getElem_toArray, List.getElem_cons_zero, List.getElem_cons_succ, List.setIfInBounds_toArray, List.set_cons_zero, List.set_cons_succ]
          refine wpAnyH_take (i := 14) (v := .agg (Brf.mk (six xs 4) (six xs 10) (T / 4096) (U / 16)).cells) rfl (by kernel_rfl) (by kernel_rfl) (by kernel_rfl) (fun _ _ _ h => h) (Or.inl ⟨by rfl, ?_⟩) (by assumption) ?_
          · intro w hSw
            clear hSw
            go_simp
          try simp only [Act.put, List.getElem_toArray, List.getElem_cons_zero, List.getElem_cons_succ, List.setIfInBounds_toArray, List.set_cons_zero, List.set_cons_succ]
          refine wpAnyH_ready (rs := [16]) (by kernel_rfl) (by simp) ?_
          refine AllReadyH.cons rfl (fun K hK => ?_) AllReadyH.nil
          rw [if_pos (by rfl)]
          refine wp_store_row _ _ _ rfl _ (Brf.mk (six xs 4) (six xs 10) (T / 4096) (U / 16)).cells rfl rfl 25 b0.cells HZ20.out sizeBar rfl (Brf.oneCell _) ?_
          have HBZ := Lib.hid (below_setRow HB20.out HGE.out (Brf.mk (six xs 4) (six xs 10) (T / 4096) (U / 16)).cells)
          have HFZ := Lib.hid (setRow_heap _ _ _ (Brf.mk (six xs 4) (six xs 10) (T / 4096) (U / 16)).cells _ _ HZ20.out)
          clear hHeld
          refine hK.out _ _ HBZ.out (fun hHeld => ?_)
          clear hK K hHeld
          refine wpAnyH_done (by kernel_rfl) ?_ _
          try simp only [Act.put, List.getElem_toArray, List.getElem_cons_zero, List.getElem_cons_succ, List.setIfInBounds_toArray, List.set_cons_zero, List.set_cons_succ]
          exact KEY _ _ HBZ HGE HFZ
      · have HZ16 := Lib.hid (heap_alloc_last w13 (.cells b0.cells 25))
        have HB16 := Lib.hid (HB13.out.alloc HB13.out.size (.cells b0.cells 25))
        have HE16 := Lib.hid (show w13.heap.size < (w13.alloc (.cells b0.cells 25)).heap.size by simp)
        have HGE := Lib.hid HB13.out.size
        clear hHeld
        go_simp
        refine hK.out _ _ HB16.out (fun hHeld => ?_)
        clear hK K
        dsimp only [b0, Brf.cells] at HZ16 HB16 HE16 hHeld
        generalize World.alloc w13 _ = w16 at *
        generalize w13.heap.size = h4 at *
        try simp only [Act.put, List.getElem_toArray, List.getElem_cons_zero, List.getElem_cons_succ, List.setIfInBounds_toArray, List.set_cons_zero, List.set_cons_succ]
        refine wpAnyH_ready (rs := [8]) (by kernel_rfl) (by simp) ?_
        refine AllReadyH.cons rfl (fun K hK => ?_) AllReadyH.nil
        go_simp
        refine (HN16.out _ HB16.out).mono ?_
        rintro e' w21 ⟨rfl, hb⟩
        have HB21 := Lib.hid (HB16.out.trans (hb.mono HB16.out.size))
        have HZ21 := Lib.hid ((hb.block _ HE16.out).trans HZ16.out)
        have HE21 := Lib.hid (Nat.lt_of_lt_of_le HE16.out hb.size)
        clear hb hHeld
        refine hK.out _ _ HB21.out (fun hHeld => ?_)
        clear hK K
        try simp only [Act.put, List.getElem_toArray, List.getElem_cons_zero, List.getElem_cons_succ, List.setIfInBounds_toArray, List.set_cons_zero, List.set_cons_succ]
        refine wpAnyH_take (i := 9) (v := ?_) rfl (by kernel_rfl) (by kernel_rfl) (by kernel_rfl) (fun _ _ _ h => h) (Or.inl ⟨by rfl, ?_⟩) (by assumption) ?_
        rotate_left
        · intro w hSw
          clear hSw
          go_simp
          try with_reducible rfl
        try simp only [Act.put, List.getElem_toArray, List.getElem_cons_zero, List.getElem_cons_succ, List.setIfInBounds_toArray, List.set_cons_zero, List.set_cons_succ]
        refine wpAnyH_ready (rs := [12]) (by kernel_rfl) (by simp) ?_
        refine AllReadyH.cons rfl (fun K hK => ?_) AllReadyH.nil
        go_simp
        refine (HN18.out _ HB21.out).mono ?_
        rintro e' w22 ⟨rfl, hb⟩
        have HB22 := Lib.hid (HB21.out.trans (hb.mono HB21.out.size))
        have HZ22 := Lib.hid ((hb.block _ HE21.out).trans HZ21.out)
        have HE22 := Lib.hid (Nat.lt_of_lt_of_le HE21.out hb.size)
        clear hb hHeld
        refine hK.out _ _ HB22.out (fun hHeld => ?_)
        clear hK K
        try simp only [Act.put, List.getElem_toArray, List.getElem_cons_zero, List.getElem_cons_succ, List.setIfInBounds_toArray, List.set_cons_zero, List.set_cons_succ]
        refine wpAnyH_take (i := 13) (v := ?_) rfl (by kernel_rfl) (by kernel_rfl) (by kernel_rfl) (fun _ _ _ h => h) (Or.inl ⟨by rfl, ?_⟩) (by assumption) ?_
        rotate_left
        · intro w hSw
          clear hSw
          go_simp
          try with_reducible rfl
        try simp only [Act.put, List.getElem_toArray, List.getElem_cons_zero, List.getElem_cons_succ, List.setIfInBounds_toArray, List.set_cons_zero, List.set_cons_succ]
        refine wpAnyH_take (i := 14) (v := .agg (Brf.mk (six xs 4) (six xs 10) (T / 4096) (U / 16)).cells) rfl (by kernel_rfl) (by kernel_rfl) (by kernel_rfl) (fun _ _ _ h => h) (Or.inl ⟨by rfl, ?_⟩) (by assumption) ?_
        · intro w hSw
          clear hSw
          go_simp
        try simp only [Act.put, List.getElem_toArray, List.getElem_cons_zero, List.getElem_cons_succ, List.setIfInBounds_toArray, List.set_cons_zero, List.set_cons_succ]
        refine wpAnyH_ready (rs := [16]) (by kernel_rfl) (by simp) ?_
        refine AllReadyH.cons rfl (fun K hK => ?_) AllReadyH.nil
        rw [if_pos (by rfl)]
        refine wp_store_row _ _ _ rfl _ (Brf.mk (six xs 4) (six xs 10) (T / 4096) (U / 16)).cells rfl rfl 25 b0.cells HZ22.out sizeBar rfl (Brf.oneCell _) ?_
        have HBZ := Lib.hid (below_setRow HB22.out HGE.out (Brf.mk (six xs 4) (six xs 10) (T / 4096) (U / 16)).cells)
        have HFZ := Lib.hid (setRow_heap _ _ _ (Brf.mk (six xs 4) (six xs 10) (T / 4096) (U / 16)).cells _ _ HZ22.out)
        clear hHeld
        refine hK.out _ _ HBZ.out (fun hHeld => ?_)
        clear hK K hHeld
        refine wpAnyH_done (by kernel_rfl) ?_ _
        try simp only [Act.put, List.getElem_toArray, List.getElem_cons_zero, List.getElem_cons_succ, List.setIfInBounds_toArray, List.set_cons_zero, List.set_cons_succ]
        exact KEY _ _ HBZ HGE HFZ
    · have HZ14 := Lib.hid (heap_alloc_last w11 (.cells b0.cells 25))
      have HB14 := Lib.hid (HB11.out.alloc HB11.out.size (.cells b0.cells 25))
      have HE14 := Lib.hid (show w11.heap.size < (w11.alloc (.cells b0.cells 25)).heap.size by simp)
      have HGE := Lib.hid HB11.out.size
      clear hHeld
      go_simp
      refine hK.out _ _ HB14.out (fun hHeld => ?_)
      clear hK K
      dsimp only [b0, Brf.cells] at HZ14 HB14 HE14 hHeld
      generalize World.alloc w11 _ = w14 at *
      generalize w11.heap.size = h4 at *
      try simp only [Act.put, List.getElem_toArray, List.getElem_cons_zero, List.getElem_cons_succ, List.setIfInBounds_toArray, List.set_cons_zero, List.set_cons_succ]
      refine wpAnyH_ready (rs := [5]) (by kernel_rfl) (by simp) ?_
      refine AllReadyH.cons rfl (fun K hK => ?_) AllReadyH.nil
      go_simp
      refine (HS10.out _ HB14.out).mono ?_
      rintro e' w23 ⟨rfl, hb⟩
      have HB23 := Lib.hid (HB14.out.trans (hb.mono HB14.out.size))
      have HZ23 := Lib.hid ((hb.block _ HE14.out).trans HZ14.out)
      have HE23 := Lib.hid (Nat.lt_of_lt_of_le HE14.out hb.size)
      clear hb hHeld
      refine hK.out _ _ HB23.out (fun hHeld => ?_)
      clear hK K
      try simp only [Act.put, List.getElem_toArray, List.getElem_cons_zero, List.getElem_cons_succ, List.setIfInBounds_toArray, List.set_cons_zero, List.set_cons_succ]
      refine wpAnyH_ready (rs := [8]) (by kernel_rfl) (by simp) ?_
      refine AllReadyH.cons rfl (fun K hK => ?_) AllReadyH.nil
      go_simp
      refine (HN16.out _ HB23.out).mono ?_
      rintro e' w24 ⟨rfl, hb⟩
      have HB24 := Lib.hid (HB23.out.trans (hb.mono HB23.out.size))
      have HZ24 := Lib.hid ((hb.block _ HE23.out).trans HZ23.out)
      have HE24 := Lib.hid (Nat.lt_of_lt_of_le HE23.out hb.size)
      clear hb hHeld
      refine hK.out _ _ HB24.out (fun hHeld => ?_)
      clear hK K
      try simp only [Act.put, List.getElem_toArray, List.getElem_cons_zero, List.getElem_cons_succ, List.setIfInBounds_toArray, List.set_cons_zero, List.set_cons_succ]
      refine wpAnyH_take (i := 9) (v := ?_) rfl (by kernel_rfl) (by kernel_rfl) (by kernel_rfl) (fun _ _ _ h => h) (Or.inl ⟨by rfl, ?_⟩) (by assumption) ?_
      rotate_left
      · intro w hSw
        clear hSw
        go_simp
        try with_reducible rfl
      try simp only [Act.put, List.getElem_toArray, List.getElem_cons_zero, List.getElem_cons_succ, List.setIfInBounds_toArray, List.set_cons_zero, List.set_cons_succ]
      refine wpAnyH_ready (rs := [12]) (by kernel_rfl) (by simp) ?_
      refine AllReadyH.cons rfl (fun K hK => ?_) AllReadyH.nil
      go_simp
      refine (HN18.out _ HB24.out).mono ?_
      rintro e' w25 ⟨rfl, hb⟩
      have HB25 := Lib.hid (HB24.out.trans (hb.mono HB24.out.size))
      have HZ25 := Lib.hid ((hb.block _ HE24.out).trans HZ24.out)
      have HE25 := Lib.hid (Nat.lt_of_lt_of_le HE24.out hb.size)
      clear hb hHeld
      refine hK.out _ _ HB25.out (fun hHeld => ?_)
      clear hK K
      try simp only [Act.put, List.getElem_toArray, List.getElem_cons_zero, List.getElem_cons_succ, List.setIfInBounds_toArray, List.set_cons_zero, List.set_cons_succ]
      refine wpAnyH_take (i := 13) (v := ?_) rfl (by kernel_rfl) (by kernel_rfl) (by kernel_rfl) (fun _ _ _ h => h) (Or.inl ⟨by rfl, ?_⟩) (by assumption) ?_
      rotate_left
      · intro w hSw
        clear hSw
        go_simp
        try with_reducible rfl
      try simp only [Act.put, List.getElem_toArray, List.getElem_cons_zero, List.getElem_cons_succ, List.setIfInBounds_toArray, List.set_cons_zero, List.set_cons_succ]
      refine wpAnyH_take (i := 14) (v := .agg (Brf.mk (six xs 4) (six xs 10) (T / 4096) (U / 16)).cells) rfl (by kernel_rfl) (by kernel_rfl) (by kernel_rfl) (fun _ _ _ h => h) (Or.inl ⟨by rfl, ?_⟩) (by assumption) ?_
      · intro w hSw
        clear hSw
        go_simp
      try simp only [Act.put, List.getElem_toArray, List.getElem_cons_zero, List.getElem_cons_succ, List.setIfInBounds_toArray, List.set_cons_zero, List.set_cons_succ]
      refine wpAnyH_ready (rs := [16]) (by kernel_rfl) (by simp) ?_
      refine AllReadyH.cons rfl (fun K hK => ?_) AllReadyH.nil
      rw [if_pos (by rfl)]
      refine wp_store_row _ _ _ rfl _ (Brf.mk (six xs 4) (six xs 10) (T / 4096) (U / 16)).cells rfl rfl 25 b0.cells HZ25.out sizeBar rfl (Brf.oneCell _) ?_
      have HBZ := Lib.hid (below_setRow HB25.out HGE.out (Brf.mk (six xs 4) (six xs 10) (T / 4096) (U / 16)).cells)
      have HFZ := Lib.hid (setRow_heap _ _ _ (Brf.mk (six xs 4) (six xs 10) (T / 4096) (U / 16)).cells _ _ HZ25.out)
      clear hHeld
      refine hK.out _ _ HBZ.out (fun hHeld => ?_)
      clear hK K hHeld
      refine wpAnyH_done (by kernel_rfl) ?_ _
      try simp only [Act.put, List.getElem_toArray, List.getElem_cons_zero, List.getElem_cons_succ, List.setIfInBounds_toArray, List.set_cons_zero, List.set_cons_succ]
      exact KEY _ _ HBZ HGE HFZ
  · have HZ12 := Lib.hid (heap_alloc_last w2 (.cells b0.cells 25))
    have HB12 := Lib.hid (HB2.out.alloc HB2.out.size (.cells b0.cells 25))
    have HE12 := Lib.hid (show w2.heap.size < (w2.alloc (.cells b0.cells 25)).heap.size by simp)
    have HGE := Lib.hid HB2.out.size
    clear hHeld
    go_simp
    refine hK.out _ _ HB12.out (fun hHeld => ?_)
    clear hK K
    dsimp only [b0, Brf.cells] at HZ12 HB12 HE12 hHeld
    generalize World.alloc w2 _ = w12 at *
    generalize w2.heap.size = h4 at *
    try simp only [Act.put, List.getElem_toArray, List.getElem_cons_zero, List.getElem_cons_succ, List.setIfInBounds_toArray, List.set_cons_zero, List.set_cons_succ]
    refine wpAnyH_ready (rs := [2]) (by kernel_rfl) (by simp) ?_
    refine AllReadyH.cons rfl (fun K hK => ?_) AllReadyH.nil
    go_simp
    refine (HS4.out _ HB12.out).mono ?_
    rintro e' w26 ⟨rfl, hb⟩
    have HB26 := Lib.hid (HB12.out.trans (hb.mono HB12.out.size))
    have HZ26 := Lib.hid ((hb.block _ HE12.out).trans HZ12.out)
    have HE26 := Lib.hid (Nat.lt_of_lt_of_le HE12.out hb.size)
    clear hb hHeld
    refine hK.out _ _ HB26.out (fun hHeld => ?_)
    clear hK K
    try simp only [Act.put, List.getElem_toArray, List.getElem_cons_zero, List.getElem_cons_succ, List.setIfInBounds_toArray, List.set_cons_zero, List.set_cons_succ]
    refine wpAnyH_ready (rs := [5]) (by kernel_rfl) (by simp) ?_
    refine AllReadyH.cons rfl (fun K hK => ?_) AllReadyH.nil
    go_simp
    refine (HS10.out _ HB26.out).mono ?_
    rintro e' w27 ⟨rfl, hb⟩
    have HB27 := Lib.hid (HB26.out.trans (hb.mono HB26.out.size))
    have HZ27 := Lib.hid ((hb.block _ HE26.out).trans HZ26.out)
    have HE27 := Lib.hid (Nat.lt_of_lt_of_le HE26.out hb.size)
    clear hb hHeld
    refine hK.out _ _ HB27.out (fun hHeld => ?_)
    clear hK K
    try simp only [Act.put, List.getElem_toArray, List.getElem_cons_zero, List.getElem_cons_succ, List.setIfInBounds_toArray, List.set_cons_zero, List.set_cons_succ]
    refine wpAnyH_ready (rs := [8]) (by kernel_rfl) (by simp) ?_
    refine AllReadyH.cons rfl (fun K hK => ?_) AllReadyH.nil
    go_simp
    refine (HN16.out _ HB27.out).mono ?_
    rintro e' w28 ⟨rfl, hb⟩
    have HB28 := Lib.hid (HB27.out.trans (hb.mono HB27.out.size))
    have HZ28 := Lib.hid ((hb.block _ HE27.out).trans HZ27.out)
    have HE28 := Lib.hid (Nat.lt_of_lt_of_le HE27.out hb.size)
    clear hb hHeld
    refine hK.out _ _ HB28.out (fun hHeld => ?_)
    clear hK K
    try simp only [Act.put, List.getElem_toArray, List.getElem_cons_zero, List.getElem_cons_succ, List.setIfInBounds_toArray, List.set_cons_zero, List.set_cons_succ]
    refine wpAnyH_take (i := 9) (v := ?_) rfl (by kernel_rfl) (by kernel_rfl) (by kernel_rfl) (fun _ _ _ h => h) (Or.inl ⟨by rfl, ?_⟩) (by assumption) ?_
    rotate_left
    · intro w hSw
      clear hSw
      go_simp
      try with_reducible rfl
    try simp only [Act.put, List.getElem_toArray, List.getElem_cons_zero, List.getElem_cons_succ, List.setIfInBounds_toArray, List.set_cons_zero, List.set_cons_succ]
    refine wpAnyH_ready (rs := [12]) (by kernel_rfl) (by simp) ?_
    refine AllReadyH.cons rfl (fun K hK => ?_) AllReadyH.nil
    go_simp
    refine (HN18.out _ HB28.out).mono ?_
    rintro e' w29 ⟨rfl, hb⟩
    have HB29 := Lib.hid (HB28.out.trans (hb.mono HB28.out.size))
    have HZ29 := Lib.hid ((hb.block _ HE28.out).trans HZ28.out)
    have HE29 := Lib.hid (Nat.lt_of_lt_of_le HE28.out hb.size)
    clear hb hHeld
    refine hK.out _ _ HB29.out (fun hHeld => ?_)
    clear hK K
    try simp only [Act.put, List.getElem_toArray, List.getElem_cons_zero, List.getElem_cons_succ, List.setIfInBounds_toArray, List.set_cons_zero, List.set_cons_succ]
    refine wpAnyH_take (i := 13) (v := ?_) rfl (by kernel_rfl) (by kernel_rfl) (by kernel_rfl) (fun _ _ _ h => h) (Or.inl ⟨by rfl, ?_⟩) (by assumption) ?_
    rotate_left
    · intro w hSw
      clear hSw
      go_simp
      try with_reducible rfl
    try simp only [Act.put, List.getElem_toArray, List.getElem_cons_zero, List.getElem_cons_succ, List.setIfInBounds_toArray, List.set_cons_zero, List.set_cons_succ]
    refine wpAnyH_take (i := 14) (v := .agg (Brf.mk (six xs 4) (six xs 10) (T / 4096) (U / 16)).cells) rfl (by kernel_rfl) (by kernel_rfl) (by kernel_rfl) (fun _ _ _ h => h) (Or.inl ⟨by rfl, ?_⟩) (by assumption) ?_
    · intro w hSw
      clear hSw
      go_simp
    try simp only [Act.put, List.getElem_toArray, List.getElem_cons_zero, List.getElem_cons_succ, List.setIfInBounds_toArray, List.set_cons_zero, List.set_cons_succ]
    refine wpAnyH_ready (rs := [16]) (by kernel_rfl) (by simp) ?_
    refine AllReadyH.cons rfl (fun K hK => ?_) AllReadyH.nil
    rw [if_pos (by rfl)]
    refine wp_store_row _ _ _ rfl _ (Brf.mk (six xs 4) (six xs 10) (T / 4096) (U / 16)).cells rfl rfl 25 b0.cells HZ29.out sizeBar rfl (Brf.oneCell _) ?_
    have HBZ := Lib.hid (below_setRow HB29.out HGE.out (Brf.mk (six xs 4) (six xs 10) (T / 4096) (U / 16)).cells)
    have HFZ := Lib.hid (setRow_heap _ _ _ (Brf.mk (six xs 4) (six xs 10) (T / 4096) (U / 16)).cells _ _ HZ29.out)
    clear hHeld
    refine hK.out _ _ HBZ.out (fun hHeld => ?_)
    clear hK K hHeld
    refine wpAnyH_done (by kernel_rfl) ?_ _
    try simp only [Act.put, List.getElem_toArray, List.getElem_cons_zero, List.getElem_cons_succ, List.setIfInBounds_toArray, List.set_cons_zero, List.set_cons_succ]
    exact KEY _ _ HBZ HGE HFZ
end Go.Proofs.YtpiiodnhiolfbaaDoor
