/-
  CONTRACT of the reference's ReadPoll.
-/
import Derived.Test.YtpiiodnhiolfbaaDoorCtlR
namespace Go.Proofs.YtpiiodnhiolfbaaDoor
open Go.ChangeShapes Go.WideShapes Go.ChangeAt Go.RowKit
set_option linter.unusedVariables false
set_option linter.unusedSimpArgs false

theorem rdP_102 {xs : List Int} (hb : begC xs 16 164 16 = 0) (h : xs.getD 1 0 ≠ 0 ∨ numAt xs 2 < 49152) : Ending.returned (.tuple #[(outP xs 16).val, .int .i64 (rdP xs 16 : Nat)]) = .returned (.tuple #[p0.val, .int .i64 102]) := by
  have hr : rdP xs 16 = 102 := by unfold rdP; rw [if_neg (by simp [hb]), if_pos h]
  rw [outP, if_neg (by rw [hr]; decide), hr]; rfl
theorem rdP_103 {xs : List Int} (hb : begC xs 16 164 16 = 0) (h1 : xs.getD 1 0 = 0) (h2 : ¬numAt xs 2 < 49152) (h : okAID (numAt xs 2 - 49152) = false) : Ending.returned (.tuple #[(outP xs 16).val, .int .i64 (rdP xs 16 : Nat)]) = .returned (.tuple #[p0.val, .int .i64 103]) := by
  have hr : rdP xs 16 = 103 := by unfold rdP; rw [if_neg (by simp [hb]), if_neg (fun hh => hh.elim (fun h => h h1) h2), if_neg (by simp [h])]
  rw [outP, if_neg (by rw [hr]; decide), hr]; rfl
theorem rdP_ok {xs : List Int} (hb : begC xs 16 164 16 = 0) (h1 : xs.getD 1 0 = 0) (h2 : ¬numAt xs 2 < 49152) (h : okAID (numAt xs 2 - 49152) = true) : Ending.returned (.tuple #[(outP xs 16).val, .int .i64 (rdP xs 16 : Nat)]) = .returned (.tuple #[(decP xs).val, .int .i64 0]) := by
  have hr : rdP xs 16 = 0 := by unfold rdP; rw [if_neg (by simp [hb]), if_neg (fun hh => hh.elim (fun h => h h1) h2), if_pos h]
  rw [outP, if_pos hr, hr]; rfl
set_option maxRecDepth 100000 in
set_option maxHeartbeats 16000000 in
theorem refReadPoll_beg (A : Option Addr) (n c : Nat) (xs : List Int) (w : World) (h : RowB .u8 w A n xs) (hb : begC xs n 164 16 ≠ 0) :
    Calls Tryd.prog 22 #[.slice A n c] w fun e w' => e = .returned (.tuple #[.agg p0.cells, .int .i64 (begC xs n 164 16 : Nat)]) ∧ Below w.heap.size w w' := by
  have HB := Lib.hid ((Below.refl w.heap.size w).alloc (Nat.le_refl _) (.cells p0.cells 30))
  have HC := Lib.hid (kind_any A n c xs 164 16 _ (h.below HB.out))
  have hne : (((begC xs n 164 16 : Nat) : Int) != 0) = true := by simp; omega
  generalize begC xs n 164 16 = m at *
  have HG := Lib.hid (heap_alloc_last w (.cells p0.cells 30))
  clear h hb
  go_enter Tryd.func22, Tryd.ntmps22
  go_wp2_with (fail)
  refine HC.out.mono ?_
  rintro e w2 ⟨rfl, rfl⟩
  generalize w.alloc (.cells p0.cells 30) = w1 at *
  go_wp2_with (refine wpList_store_row rfl 30 (.tmp 2) (.tmp 11) rfl w.heap.size p0.cells rfl rfl 30 p0.cells HG.out sizePoll rfl (Plf.oneCell _) ?_; rw [setRow_same _ _ _ _ _ HG.out])
  refine bodyPost_ret (v := .tuple #[.agg p0.cells, .int .i64 (m : Nat)]) (results_cell_slot (p := 2) (q := 3) Tryd.results22 _ _ w.heap.size _ p0.cells _ _ rfl HG.out Tryd.underlying30 rfl sizePoll) rfl ⟨rfl, HB.out⟩

set_option maxRecDepth 100000 in
set_option maxHeartbeats 16000000 in
theorem refReadPoll_fit (A : Option Addr) (n c : Nat) (xs : List Int) (w : World) (h : RowB .u8 w A n xs) (hnc : n ≤ c) (hb : begC xs n 164 16 = 0) :
    Calls Tryd.prog 22 #[.slice A n c] w fun e w' => e = .returned (.tuple #[(outP xs n).val, .int .i64 (rdP xs n : Nat)]) ∧ Below w.heap.size w w' := by
  obtain ⟨hn, hk⟩ := begC_fine hb (by omega)
  have hn1 : n = 16 := by omega
  subst hn1
  have HB := Lib.hid ((Below.refl w.heap.size w).alloc (Nat.le_refl _) (.cells p0.cells 30))
  have HR := Lib.hid (h.below HB.out)
  have HC := Lib.hid (kind_any A 16 c xs 164 16 _ HR.out)
  rw [hb] at HC
  have HG := Lib.hid (heap_alloc_last w (.cells p0.cells 30))
  have HLT := Lib.hid (show w.heap.size < (w.alloc (.cells p0.cells 30)).heap.size by simp)
  have HW := Lib.hid (show ∀ i, i < 16 → 0 ≤ xs.getD i 0 ∧ xs.getD i 0 ≤ 255 from fun i hi => h.wf8 i hi)
  have HLN := Lib.hid h.len
  have HK := Lib.hid hk
  obtain ⟨b, off, rfl, _⟩ := HR.out.cells (by omega)
  have hnc' : (16 : Int) ≤ (c : Int) := by omega
  clear h hk hn
  go_enter Tryd.func22, Tryd.ntmps22
  go_wp2_with (fail)
  refine HC.out.mono ?_
  rintro e w2 ⟨rfl, rfl⟩
  generalize w.alloc (.cells p0.cells 30) = w1 at *
  clear HC
  have d2 : (c = 2) = False := by simp; omega
  have HN2 := Lib.hid (num_any b (off + 2) (16 - 2) (c - 2) (xs.drop 2) w1 (drop_row HR.out 2 (by omega)) (by omega))
  rw [drop_getD, drop_getD] at HN2
  have HN2' := Lib.hid (show Calls Tryd.prog 43 #[.slice (some ⟨b, off + 2, none⟩) (16 - 2) (c - 2)] w1 fun e w' => e = .returned (.int .i64 (numAt xs 2)) ∧ ∃ m, w' = w1.drewN m from HN2.out)
  clear HN2
  go_wp2_with (fail)
  refine HN2'.out.mono ?_
  rintro e w2 ⟨rfl, m, rfl⟩
  have HBt := Lib.hid (below_drewN HB.out m)
  have HGt := Lib.hid (show (w1.drewN m).heap[w.heap.size]? = some (.cells p0.cells 30 (0, 0)) from HG.out)
  have HRt := Lib.hid (HR.out.drewN m)
  have HLt := Lib.hid (show w.heap.size < (w1.drewN m).heap.size from HLT.out)
  clear HB HG HR HLT HN2'
  have HB := HBt
  have HG := HGt
  have HR := HRt
  have HLT := HLt
  clear HBt HGt HRt HLt
  generalize w1.drewN m = w1 at *
  have HBAD := Lib.hid (rdP_102 (xs := xs) hb)
  have HPR := Lib.hid (rdP_103 (xs := xs) hb)
  have HPO := Lib.hid (rdP_ok (xs := xs) hb)
  have HDEC := Lib.hid (show decP xs = ⟨numAt xs 2 - 49152, six xs 4, six xs 10⟩ from rfl)
  obtain ⟨t0, t1⟩ := numAt_wf HR.out 2 (by omega)
  have c1 := HR.out.at_ 1 (by omega)
  generalize numAt xs 2 = N at *
  generalize xs.getD 1 0 = v1 at *
  cases f1 : (v1 != 0)
  case true =>
    go_wp2_with (refine wpList_store_row rfl 30 (.tmp 2) (.tmp 24) rfl w.heap.size p0.cells rfl rfl 30 p0.cells HG.out sizePoll rfl (Plf.oneCell _) ?_; rw [setRow_same _ _ _ _ _ HG.out])
    refine bodyPost_ret (v := .tuple #[.agg p0.cells, .int .i64 102]) (results_cell_slot (p := 2) (q := 3) Tryd.results22 _ _ w.heap.size _ p0.cells _ _ rfl HG.out Tryd.underlying30 rfl sizePoll) rfl ⟨by rw [HBAD.out (.inl (by simpa using f1))], HB.out⟩
  have hz : v1 = 0 := by simpa using f1
  cases f2 : decide (N < 49152)
  case true =>
    go_wp2_with (refine wpList_store_row rfl 30 (.tmp 2) (.tmp 24) rfl w.heap.size p0.cells rfl rfl 30 p0.cells HG.out sizePoll rfl (Plf.oneCell _) ?_; rw [setRow_same _ _ _ _ _ HG.out])
    refine bodyPost_ret (v := .tuple #[.agg p0.cells, .int .i64 102]) (results_cell_slot (p := 2) (q := 3) Tryd.results22 _ _ w.heap.size _ p0.cells _ _ rfl HG.out Tryd.underlying30 rfl sizePoll) rfl ⟨by rw [HBAD.out (.inr (by simpa using f2))], HB.out⟩
  have hN : ¬N < 49152 := by simpa using f2
  have HPR2 := Lib.hid (HPR.out hz hN)
  have HPO2 := Lib.hid (HPO.out hz hN)
  clear HPR HPO HBAD
  have HPR := HPR2
  have HPO := HPO2
  clear HPR2 HPO2
  have x1 : IntKind.i64.wrap (N - 49152) = N - 49152 := IntWalk.i64_in _ ⟨by omega, by omega⟩
  have HS4 := Lib.hid (show ∀ w' : World, Below w1.heap.size w1 w' → Calls Tryd.prog 42 #[.slice (some ⟨b, off + 4, none⟩) (16 - 4) (c - 4)] w' fun e w'' => e = .returned (six xs 4).val ∧ Below w'.heap.size w' w'' from
    fun w' hb => six_off 4 b off 16 c xs w' (HR.out.below hb) (by omega))
  have HS10 := Lib.hid (show ∀ w' : World, Below w1.heap.size w1 w' → Calls Tryd.prog 42 #[.slice (some ⟨b, off + 10, none⟩) (16 - 10) (c - 10)] w' fun e w'' => e = .returned (six xs 10).val ∧ Below w'.heap.size w' w'' from
    fun w' hb => six_off 10 b off 16 c xs w' (HR.out.below hb) (by omega))
  have d4 : (c = 4) = False := by simp; omega
  have d10 : (c = 10) = False := by simp; omega
  go_wp2
  rename_i h9 K9 a9
  have KEY : ∀ (w5 : World) (h4 : Nat), Hid (Below w1.heap.size w1 w5) → Hid (w1.heap.size ≤ h4) → Hid (w5.heap[h4]? = some (.cells (Plf.mk (N - 49152) (six xs 4) (six xs 10)).cells 30 (0, 0))) → Exit.then K9 (bodyPost Tryd.prog Tryd.f22 fun e w' => e = .returned (.tuple #[(outP xs 16).val, .int .i64 (rdP xs 16 : Nat)]) ∧ Below w.heap.size w w') .normal { tmps := #[.slice (some ⟨b, off, none⟩) 16 c, undef, .pointer (some ⟨w.heap.size, 0, none⟩), .int .i64 0, .int .i64 0, .int .i64 N, .pointer (some ⟨h4, 0, none⟩), .slice (some ⟨b, off, none⟩) 16 c, .int .i64 0, .int .i64 0, .bool false, undef, undef, .slice (some ⟨b, off, none⟩) 16 c, .slice (some ⟨b, off + 2, none⟩) (16 - 2) (c - 2), .int .i64 N, .slice (some ⟨b, off, none⟩) 16 c, .pointer (some ⟨b, off + 1, none⟩), .int .u8 0, .bool false, .bool false, .int .i64 N, .bool false, .bool false, undef, .int .i64 N, .int .i64 (N - 49152), .slice (some ⟨b, off, none⟩) 16 c, .slice (some ⟨b, off + 4, none⟩) (16 - 4) (c - 4), .agg (six xs 4).cells, .slice (some ⟨b, off, none⟩) 16 c, .slice (some ⟨b, off + 10, none⟩) (16 - 10) (c - 10), .agg (six xs 10).cells, .agg (Plf.mk (N - 49152) (six xs 4) (six xs 10)).cells, undef, undef, undef, undef, undef, undef, undef, undef, undef, undef], defers := [] } w5 := by
    intro w5 h4 HB5 HH5 HF5
    have HG5 := Lib.hid ((HB5.out.block _ HLT.out).trans HG.out)
    have HBA := Lib.hid (HB.out.trans (HB5.out.mono HB.out.size))
    have HH4 := Lib.hid (show h4 < w5.heap.size from by
      by_cases hp : h4 < w5.heap.size
      · exact hp
      · have := HF5.out; rw [Array.getElem?_eq_none (Nat.le_of_not_lt hp)] at this; cases this)
    have HG5L := Lib.hid (Nat.lt_of_lt_of_le HLT.out HB5.out.size)
    have HR5 := Lib.hid (HR.out.below HB5.out)
    have HBX := HBA
    have HGX := HG5
    have HFX := HF5
    have d0 := cell_of_row w5 h4 0 _ _ _ HF5.out
    dsimp only [Plf.cells] at d0
    cases g1 : decide (N - 49152 < 1)
    · cases g2 : decide ((2007 : Int) < N - 49152)
      · have hok : okAID (N - 49152) = true := (okAID_iff _).2 (by simp at g1 g2; omega)
        go_wp2_with (first | (refine wpList_load_row rfl 30 (.tmp 6) rfl h4 rfl 30 (Plf.mk (N - 49152) (six xs 4) (six xs 10)).cells (0, 0) _ HFX.out Tryd.underlying30 rfl sizePoll ?_) | (refine wpList_store_row rfl 30 (.tmp 2) (.tmp 43) rfl w.heap.size (Plf.mk (N - 49152) (six xs 4) (six xs 10)).cells rfl rfl 30 p0.cells HGX.out sizePoll rfl (Plf.oneCell _) ?_))
        have HGz := Lib.hid (setRow_heap w5 w.heap.size p0.cells (Plf.mk (N - 49152) (six xs 4) (six xs 10)).cells 30 (0, 0) HGX.out)
        refine bodyPost_ret (v := .tuple #[.agg (Plf.mk (N - 49152) (six xs 4) (six xs 10)).cells, .int .i64 0]) (results_cell_slot (p := 2) (q := 3) Tryd.results22 _ _ w.heap.size _ (Plf.mk (N - 49152) (six xs 4) (six xs 10)).cells _ _ rfl HGz.out Tryd.underlying30 rfl sizePoll) rfl ⟨by rw [HPO.out hok, HDEC.out], below_setRow HBX.out (Nat.le_refl _) _⟩
      · have hok : okAID (N - 49152) = false := by rw [Bool.eq_false_iff]; intro hh; have := (okAID_iff _).1 hh; simp at g1 g2; omega
        go_wp2_with (refine wpList_store_row rfl 30 (.tmp 2) (.tmp 42) rfl w.heap.size p0.cells rfl rfl 30 p0.cells HGX.out sizePoll rfl (Plf.oneCell _) ?_; rw [setRow_same _ _ _ _ _ HGX.out])
        refine bodyPost_ret (v := .tuple #[.agg p0.cells, .int .i64 103]) (results_cell_slot (p := 2) (q := 3) Tryd.results22 _ _ w.heap.size _ p0.cells _ _ rfl HGX.out Tryd.underlying30 rfl sizePoll) rfl ⟨by rw [HPR.out hok], HBX.out⟩
    · have hok : okAID (N - 49152) = false := by rw [Bool.eq_false_iff]; intro hh; have := (okAID_iff _).1 hh; simp at g1; omega
      go_wp2_with (refine wpList_store_row rfl 30 (.tmp 2) (.tmp 42) rfl w.heap.size p0.cells rfl rfl 30 p0.cells HGX.out sizePoll rfl (Plf.oneCell _) ?_; rw [setRow_same _ _ _ _ _ HGX.out])
      refine bodyPost_ret (v := .tuple #[.agg p0.cells, .int .i64 103]) (results_cell_slot (p := 2) (q := 3) Tryd.results22 _ _ w.heap.size _ p0.cells _ _ rfl HGX.out Tryd.underlying30 rfl sizePoll) rfl ⟨by rw [HPR.out hok], HBX.out⟩
  refine wp_region_held_drew (S := fun w' => Below w1.heap.size w1 w') (by kernel_rfl) (Below.refl _ _).drew (fun hHeld => ?_)
  clear HB HG
  generalize World.drew w1 = w2 at *
  have HB2 := Lib.hid hHeld
  refine wpAnyH_take (i := 0) (v := ?_) rfl (by kernel_rfl) (by kernel_rfl) (by kernel_rfl) (fun _ _ _ h => h) (Or.inl ⟨by rfl, ?_⟩) (by assumption) ?_
  rotate_left
  · intro w hSw
    clear hSw
    go_simp
    try with_reducible rfl
  try simp only [Act.put, List.getElem_toArray, List.getElem_cons_zero, List.getElem_cons_succ, List.setIfInBounds_toArray, List.set_cons_zero, List.set_cons_succ]
  refine wpAnyH_take (i := 1) (v := ?_) rfl (by kernel_rfl) (by kernel_rfl) (by kernel_rfl) (fun _ _ _ h => h) (Or.inl ⟨by rfl, ?_⟩) (by assumption) ?_
  rotate_left
  · intro w hSw
    clear hSw
    go_simp
    try with_reducible rfl
  try simp only [Act.put, List.getElem_toArray, List.getElem_cons_zero, List.getElem_cons_succ, List.setIfInBounds_toArray, List.set_cons_zero, List.set_cons_succ]
  refine wpAnyH_take (i := 2) (v := ?_) rfl (by kernel_rfl) (by kernel_rfl) (by kernel_rfl) (fun _ _ _ h => h) (Or.inl ⟨by rfl, ?_⟩) (by assumption) ?_
  rotate_left
  · intro w hSw
    clear hSw
    go_simp
    try with_reducible rfl
  try simp only [Act.put, List.getElem_toArray, List.getElem_cons_zero, List.getElem_cons_succ, List.setIfInBounds_toArray, List.set_cons_zero, List.set_cons_succ]
  refine wpAnyH_take (i := 3) (v := ?_) rfl (by kernel_rfl) (by kernel_rfl) (by kernel_rfl) (fun _ _ _ h => h) (Or.inl ⟨by rfl, ?_⟩) (by assumption) ?_
  rotate_left
  · intro w hSw
    clear hSw
    go_simp
    try with_reducible rfl
  try simp only [Act.put, List.getElem_toArray, List.getElem_cons_zero, List.getElem_cons_succ, List.setIfInBounds_toArray, List.set_cons_zero, List.set_cons_succ]
  refine wpAnyH_take (i := 5) (v := ?_) rfl (by kernel_rfl) (by kernel_rfl) (by kernel_rfl) (fun _ _ _ h => h) (Or.inl ⟨by rfl, ?_⟩) (by assumption) ?_
  rotate_left
  · intro w hSw
    clear hSw
    go_simp
    try with_reducible rfl
  try simp only [Act.put, List.getElem_toArray, List.getElem_cons_zero, List.getElem_cons_succ, List.setIfInBounds_toArray, List.set_cons_zero, List.set_cons_succ]
  refine wpAnyH_take (i := 6) (v := ?_) rfl (by kernel_rfl) (by kernel_rfl) (by kernel_rfl) (fun _ _ _ h => h) (Or.inl ⟨by rfl, ?_⟩) (by assumption) ?_
  rotate_left
  · intro w hSw
    clear hSw
    go_simp
    try with_reducible rfl
  try simp only [Act.put, List.getElem_toArray, List.getElem_cons_zero, List.getElem_cons_succ, List.setIfInBounds_toArray, List.set_cons_zero, List.set_cons_succ]
  refine wpAnyH_ready (rs := [4, 9]) (by kernel_rfl) (by simp) ?_
  refine AllReadyH.cons rfl (fun K hK => ?_) (AllReadyH.cons rfl (fun K hK => ?_) AllReadyH.nil)
  · go_simp
    refine (HS4.out _ HB2.out).mono ?_
    rintro e' w11 ⟨rfl, hb⟩
    have HB11 := Lib.hid (HB2.out.trans (hb.mono HB2.out.size))
    clear hb hHeld
    refine hK.out _ _ HB11.out (fun hHeld => ?_)
    clear hK K
    try simp only [Act.put, List.getElem_toArray, List.getElem_cons_zero, List.getElem_cons_succ, List.setIfInBounds_toArray, List.set_cons_zero, List.set_cons_succ]
    refine wpAnyH_ready (rs := [7, 9]) (by kernel_rfl) (by simp) ?_
    refine AllReadyH.cons rfl (fun K hK => ?_) (AllReadyH.cons rfl (fun K hK => ?_) AllReadyH.nil)
    · go_simp
      refine (HS10.out _ HB11.out).mono ?_
      rintro e' w13 ⟨rfl, hb⟩
      have HB13 := Lib.hid (HB11.out.trans (hb.mono HB11.out.size))
      clear hb hHeld
      refine hK.out _ _ HB13.out (fun hHeld => ?_)
      clear hK K
      try simp only [Act.put, List.getElem_toArray, List.getElem_cons_zero, List.getElem_cons_succ, List.setIfInBounds_toArray, List.set_cons_zero, List.set_cons_succ]
      refine wpAnyH_take (i := 8) (v := .agg (Plf.mk (N - 49152) (six xs 4) (six xs 10)).cells) rfl (by kernel_rfl) (by kernel_rfl) (by kernel_rfl) (fun _ _ _ h => h) (Or.inl ⟨by rfl, ?_⟩) (by assumption) ?_
      · intro w hSw
        clear hSw
        go_simp
      try simp only [Act.put, List.getElem_toArray, List.getElem_cons_zero, List.getElem_cons_succ, List.setIfInBounds_toArray, List.set_cons_zero, List.set_cons_succ]
      refine wpAnyH_ready (rs := [9]) (by kernel_rfl) (by simp) ?_
      refine AllReadyH.cons rfl (fun K hK => ?_) AllReadyH.nil
      have HZ15 := Lib.hid (heap_alloc_last w13 (.cells p0.cells 30))
      have HB15 := Lib.hid (HB13.out.alloc HB13.out.size (.cells p0.cells 30))
      have HE15 := Lib.hid (show w13.heap.size < (w13.alloc (.cells p0.cells 30)).heap.size by simp)
      have HGE := Lib.hid HB13.out.size
      clear hHeld
      go_simp
      refine hK.out _ _ HB15.out (fun hHeld => ?_)
      clear hK K
      dsimp only [p0, Plf.cells] at HZ15 HB15 HE15 hHeld
      generalize World.alloc w13 _ = w15 at *
      generalize w13.heap.size = h4 at *
      try simp only [Act.put, List.getElem_toArray, List.getElem_cons_zero, List.getElem_cons_succ, List.setIfInBounds_toArray, List.set_cons_zero, List.set_cons_succ]
      refine wpAnyH_ready (rs := [10]) (by kernel_rfl) (by simp) ?_
      refine AllReadyH.cons rfl (fun K hK => ?_) AllReadyH.nil
      rw [if_pos (by rfl)]
      refine wp_store_row _ _ _ rfl _ (Plf.mk (N - 49152) (six xs 4) (six xs 10)).cells rfl rfl 30 p0.cells HZ15.out sizePoll rfl (Plf.oneCell _) ?_
      have HBZ := Lib.hid (below_setRow HB15.out HGE.out (Plf.mk (N - 49152) (six xs 4) (six xs 10)).cells)
      have HFZ := Lib.hid (setRow_heap _ _ _ (Plf.mk (N - 49152) (six xs 4) (six xs 10)).cells _ _ HZ15.out)
      clear hHeld
      refine hK.out _ _ HBZ.out (fun hHeld => ?_)
      clear hK K hHeld
      refine wpAnyH_done (by kernel_rfl) ?_ _
      try simp only [Act.put, List.getElem_toArray, List.getElem_cons_zero, List.getElem_cons_succ, List.setIfInBounds_toArray, List.set_cons_zero, List.set_cons_succ]
      exact KEY _ _ HBZ HGE HFZ
    · have HZ14 := Lib.hid (heap_alloc_last w11 (.cells p0.cells 30))
      have HB14 := Lib.hid (HB11.out.alloc HB11.out.size (.cells p0.cells 30))
      have HE14 := Lib.hid (show w11.heap.size < (w11.alloc (.cells p0.cells 30)).heap.size by simp)
      have HGE := Lib.hid HB11.out.size
      clear hHeld
      go_simp
      refine hK.out _ _ HB14.out (fun hHeld => ?_)
      clear hK K
      dsimp only [p0, Plf.cells] at HZ14 HB14 HE14 hHeld
      generalize World.alloc w11 _ = w14 at *
      generalize w11.heap.size = h4 at *
      try simp only [Act.put, List.getElem_toArray, List.getElem_cons_zero, List.getElem_cons_succ, List.setIfInBounds_toArray, List.set_cons_zero, List.set_cons_succ]
      refine wpAnyH_ready (rs := [7]) (by kernel_rfl) (by simp) ?_
      refine AllReadyH.cons rfl (fun K hK => ?_) AllReadyH.nil
      go_simp
      refine (HS10.out _ HB14.out).mono ?_
      rintro e' w16 ⟨rfl, hb⟩
      have HB16 := Lib.hid (HB14.out.trans (hb.mono HB14.out.size))
      have HZ16 := Lib.hid ((hb.block _ HE14.out).trans HZ14.out)
      have HE16 := Lib.hid (Nat.lt_of_lt_of_le HE14.out hb.size)
      clear hb hHeld
      refine hK.out _ _ HB16.out (fun hHeld => ?_)
      clear hK K
      try simp only [Act.put, List.getElem_toArray, List.getElem_cons_zero, List.getElem_cons_succ, List.setIfInBounds_toArray, List.set_cons_zero, List.set_cons_succ]
      refine wpAnyH_take (i := 8) (v := .agg (Plf.mk (N - 49152) (six xs 4) (six xs 10)).cells) rfl (by kernel_rfl) (by kernel_rfl) (by kernel_rfl) (fun _ _ _ h => h) (Or.inl ⟨by rfl, ?_⟩) (by assumption) ?_
      · intro w hSw
        clear hSw
        go_simp
      try simp only [Act.put, List.getElem_toArray, List.getElem_cons_zero, List.getElem_cons_succ, List.setIfInBounds_toArray, List.set_cons_zero, List.set_cons_succ]
      refine wpAnyH_ready (rs := [10]) (by kernel_rfl) (by simp) ?_
      refine AllReadyH.cons rfl (fun K hK => ?_) AllReadyH.nil
      rw [if_pos (by rfl)]
      refine wp_store_row _ _ _ rfl _ (Plf.mk (N - 49152) (six xs 4) (six xs 10)).cells rfl rfl 30 p0.cells HZ16.out sizePoll rfl (Plf.oneCell _) ?_
      have HBZ := Lib.hid (below_setRow HB16.out HGE.out (Plf.mk (N - 49152) (six xs 4) (six xs 10)).cells)
      have HFZ := Lib.hid (setRow_heap _ _ _ (Plf.mk (N - 49152) (six xs 4) (six xs 10)).cells _ _ HZ16.out)
      clear hHeld
      refine hK.out _ _ HBZ.out (fun hHeld => ?_)
      clear hK K hHeld
      refine wpAnyH_done (by kernel_rfl) ?_ _
      try simp only [Act.put, List.getElem_toArray, List.getElem_cons_zero, List.getElem_cons_succ, List.setIfInBounds_toArray, List.set_cons_zero, List.set_cons_succ]
      exact KEY _ _ HBZ HGE HFZ
  · have HZ12 := Lib.hid (heap_alloc_last w2 (.cells p0.cells 30))
    have HB12 := Lib.hid (HB2.out.alloc HB2.out.size (.cells p0.cells 30))
    have HE12 := Lib.hid (show w2.heap.size < (w2.alloc (.cells p0.cells 30)).heap.size by simp)
    have HGE := Lib.hid HB2.out.size
    clear hHeld
    go_simp
    refine hK.out _ _ HB12.out (fun hHeld => ?_)
    clear hK K
    dsimp only [p0, Plf.cells] at HZ12 HB12 HE12 hHeld
    generalize World.alloc w2 _ = w12 at *
    generalize w2.heap.size = h4 at *
    try simp only [Act.put, List.getElem_toArray, List.getElem_cons_zero, List.getElem_cons_succ, List.setIfInBounds_toArray, List.set_cons_zero, List.set_cons_succ]
    refine wpAnyH_ready (rs := [4]) (by kernel_rfl) (by simp) ?_
    refine AllReadyH.cons rfl (fun K hK => ?_) AllReadyH.nil
    go_simp
    refine (HS4.out _ HB12.out).mono ?_
    rintro e' w17 ⟨rfl, hb⟩
    have HB17 := Lib.hid (HB12.out.trans (hb.mono HB12.out.size))
    have HZ17 := Lib.hid ((hb.block _ HE12.out).trans HZ12.out)
    have HE17 := Lib.hid (Nat.lt_of_lt_of_le HE12.out hb.size)
    clear hb hHeld
    refine hK.out _ _ HB17.out (fun hHeld => ?_)
    clear hK K
    try simp only [Act.put, List.getElem_toArray, List.getElem_cons_zero, List.getElem_cons_succ, List.setIfInBounds_toArray, List.set_cons_zero, List.set_cons_succ]
    refine wpAnyH_ready (rs := [7]) (by kernel_rfl) (by simp) ?_
    refine AllReadyH.cons rfl (fun K hK => ?_) AllReadyH.nil
    go_simp
    refine (HS10.out _ HB17.out).mono ?_
    rintro e' w18 ⟨rfl, hb⟩
    have HB18 := Lib.hid (HB17.out.trans (hb.mono HB17.out.size))
    have HZ18 := Lib.hid ((hb.block _ HE17.out).trans HZ17.out)
    have HE18 := Lib.hid (Nat.lt_of_lt_of_le HE17.out hb.size)
    clear hb hHeld
    refine hK.out _ _ HB18.out (fun hHeld => ?_)
    clear hK K
    try simp only [Act.put, List.getElem_toArray, List.getElem_cons_zero, List.getElem_cons_succ, List.setIfInBounds_toArray, List.set_cons_zero, List.set_cons_succ]
    refine wpAnyH_take (i := 8) (v := .agg (Plf.mk (N - 49152) (six xs 4) (six xs 10)).cells) rfl (by kernel_rfl) (by kernel_rfl) (by kernel_rfl) (fun _ _ _ h => h) (Or.inl ⟨by rfl, ?_⟩) (by assumption) ?_
    · intro w hSw
      clear hSw
      go_simp
    try simp only [Act.put, List.getElem_toArray, List.getElem_cons_zero, List.getElem_cons_succ, List.setIfInBounds_toArray, List.set_cons_zero, List.set_cons_succ]
    refine wpAnyH_ready (rs := [10]) (by kernel_rfl) (by simp) ?_
    refine AllReadyH.cons rfl (fun K hK => ?_) AllReadyH.nil
    rw [if_pos (by rfl)]
    refine wp_store_row _ _ _ rfl _ (Plf.mk (N - 49152) (six xs 4) (six xs 10)).cells rfl rfl 30 p0.cells HZ18.out sizePoll rfl (Plf.oneCell _) ?_
    have HBZ := Lib.hid (below_setRow HB18.out HGE.out (Plf.mk (N - 49152) (six xs 4) (six xs 10)).cells)
    have HFZ := Lib.hid (setRow_heap _ _ _ (Plf.mk (N - 49152) (six xs 4) (six xs 10)).cells _ _ HZ18.out)
    clear hHeld
    refine hK.out _ _ HBZ.out (fun hHeld => ?_)
    clear hK K hHeld
    refine wpAnyH_done (by kernel_rfl) ?_ _
    try simp only [Act.put, List.getElem_toArray, List.getElem_cons_zero, List.getElem_cons_succ, List.setIfInBounds_toArray, List.set_cons_zero, List.set_cons_succ]
    exact KEY _ _ HBZ HGE HFZ
end Go.Proofs.YtpiiodnhiolfbaaDoor
