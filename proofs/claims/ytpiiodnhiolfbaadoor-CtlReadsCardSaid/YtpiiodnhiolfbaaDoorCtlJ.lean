/-
  CONTRACT of ctl.ReadPoll.
-/
import Derived.Test.YtpiiodnhiolfbaaDoorCtlE
namespace Go.Proofs.YtpiiodnhiolfbaaDoor
open Go.ChangeShapes Go.WideShapes Go.ChangeAt Go.RowKit
set_option linter.unusedVariables false
set_option linter.unusedSimpArgs false

/-- the Poll of zeros; the Poll that bytes say; what reading answers. -/
abbrev p0 : Plf := ⟨0, ⟨0, 0, 0, 0, 0, 0⟩, ⟨0, 0, 0, 0, 0, 0⟩⟩
def decP (xs : List Int) : Plf := ⟨numAt xs 2 - 49152, six xs 4, six xs 10⟩
def rdP (xs : List Int) (n : Nat) : Nat := if begC xs n 164 16 ≠ 0 then begC xs n 164 16 else if xs.getD 1 0 ≠ 0 ∨ numAt xs 2 < 49152 then 102 else if okAID (numAt xs 2 - 49152) = true then 0 else 103
theorem rdP_4 (xs : List Int) (n : Nat) : rdP xs n = 0 ∨ rdP xs n ∈ S4 := by
  unfold rdP
  split
  · exact begC_4 xs n 164 16
  split
  · exact .inr (by decide)
  split
  · exact .inl rfl
  · exact .inr (by decide)
def outP (xs : List Int) (n : Nat) : Plf := if rdP xs n = 0 then decP xs else p0

set_option maxRecDepth 100000 in
set_option maxHeartbeats 8000000 in
theorem rp_beg (A : Option Addr) (n c : Nat) (xs : List Int) (E : Nat → Addr) (w : World) (h : RowB .u8 w A n xs) (hS : Sent w E S4) (hnc : n ≤ c) (hb : begC xs n 164 16 ≠ 0) :
    Calls Tryd.prog 19 #[.slice A n c] w fun e w' => e = .returned (.tuple #[p0.val, errP (E (begC xs n 164 16))]) ∧ Below w.heap.size w w' := by
  have HB := Lib.hid ((Below.refl w.heap.size w).alloc (Nat.le_refl _) (.cells p0.cells 30))
  have HC := Lib.hid (begins_any A n c xs 164 16 E _ (h.below HB.out) (hS.below HB.out))
  rw [errV_pos E hb] at HC
  generalize E (begC xs n 164 16) = a at *
  have HG := Lib.hid (heap_alloc_last w (.cells p0.cells 30))
  clear h hS hb
  go_enter Tryd.func19, Tryd.ntmps19
  go_wp2_with (fail)
  refine HC.out.mono ?_
  rintro e w2 ⟨rfl, rfl⟩
  generalize w.alloc (.cells p0.cells 30) = w1 at *
  go_wp2_with (refine wpList_store_row rfl 30 (.tmp 2) (.tmp 10) rfl w.heap.size p0.cells rfl rfl 30 p0.cells HG.out sizePoll rfl p0.oneCell ?_; rw [setRow_same _ _ _ _ _ HG.out])
  refine bodyPost_ret (v := .tuple #[p0.val, errP a]) (results_cell_slot (p := 2) (q := 3) Tryd.results19 _ _ w.heap.size _ p0.cells _ _ rfl HG.out Tryd.underlying30 rfl sizePoll) rfl ⟨rfl, HB.out⟩

set_option maxRecDepth 100000 in
set_option maxHeartbeats 8000000 in
theorem rp_shape (A : Option Addr) (n c : Nat) (xs : List Int) (E : Nat → Addr) (w : World) (h : RowB .u8 w A n xs) (hS : Sent w E S4) (hnc : n ≤ c) (hb : begC xs n 164 16 = 0) (hf : xs.getD 1 0 ≠ 0 ∨ numAt xs 2 < 49152) :
    Calls Tryd.prog 19 #[.slice A n c] w fun e w' => e = .returned (.tuple #[p0.val, errP (E 102)]) ∧ Below w.heap.size w w' := by
  obtain ⟨hn, hk⟩ := begC_fine hb (by omega)
  have HB := Lib.hid ((Below.refl w.heap.size w).alloc (Nat.le_refl _) (.cells p0.cells 30))
  have HC := Lib.hid (begins_any A n c xs 164 16 E _ (h.below HB.out) (hS.below HB.out))
  rw [hb, errV_zero] at HC
  have hn16 : n = 16 := by omega
  subst hn16
  have HG := Lib.hid (heap_alloc_last w (.cells p0.cells 30))
  have HR := Lib.hid (h.below HB.out)
  obtain ⟨b, off, rfl, hc⟩ := HR.out.cells (by omega)
  have hnc' : (16 : Int) ≤ (c : Int) := by omega
  have HT := Lib.hid (number_off 2 b off 16 c xs (w.alloc (.cells p0.cells 30)) HR.out (by omega))
  obtain ⟨t0, t1⟩ := numAt_wf HR.out 2 (by omega)
  have he := hS.at_ 102 (by decide)
  simp only [gOf] at he
  generalize E 102 = a at *
  have HE0 := Lib.hid he
  clear he
  have d2 : (c = 2) = False := by simp; omega
  clear hc h hb hk hS
  have HD := Lib.hid (show decP xs = ⟨numAt xs 2 - 49152, six xs 4, six xs 10⟩ from rfl)
  have HI := Lib.hid (mayBeAID_any (numAt xs 2 - 49152))
  generalize numAt xs 2 = N at *
  have HV := Lib.hid (show ∀ w' : World, RowB .u8 w' (some ⟨b, off, none⟩) 16 xs → w'.cell? ⟨b, off + 1, none⟩ = some (.int .u8 (xs.getD 1 0)) from fun w' h => h.at_ 1 (by omega))
  generalize xs.getD 1 0 = v1 at *
  have x1 : IntKind.i64.wrap (N - 49152) = N - 49152 := IntWalk.i64_in _ ⟨by omega, by omega⟩
  go_enter Tryd.func19, Tryd.ntmps19
  go_wp2_with (fail)
  refine HC.out.mono ?_
  rintro e w2 ⟨rfl, rfl⟩
  have HL := Lib.hid (show w.heap.size < (w.alloc (.cells p0.cells 30)).heap.size by simp)
  generalize w.alloc (.cells p0.cells 30) = w1 at *
  clear HC
  go_wp2_with (fail)
  refine HT.out.mono ?_
  rintro e w2 ⟨rfl, m, rfl⟩
  have HB2 := Lib.hid (below_drewN HB.out m)
  have HG2 := Lib.hid (show (w1.drewN m).heap[w.heap.size]? = some (.cells p0.cells 30 (0, 0)) from HG.out)
  have HR2 := Lib.hid (HR.out.drewN m)
  have HL2 := Lib.hid (show w.heap.size < (w1.drewN m).heap.size from HL.out)
  generalize w1.drewN m = w2 at *
  clear HT HB HG HR HL
  have HA3 := Lib.hid ((Below.refl w2.heap.size w2).alloc (Nat.le_refl _) (.cells (Plf.mk (N - 49152) ⟨0, 0, 0, 0, 0, 0⟩ ⟨0, 0, 0, 0, 0, 0⟩).cells 30))
  have HB3 := Lib.hid (HB2.out.trans (HA3.out.mono HB2.out.size))
  have HG3 := Lib.hid ((HA3.out.block _ HL2.out).trans HG2.out)
  have HR3 := Lib.hid (HR2.out.below HA3.out)
  have HF3 := Lib.hid (heap_alloc_last w2 (.cells (Plf.mk (N - 49152) ⟨0, 0, 0, 0, 0, 0⟩ ⟨0, 0, 0, 0, 0, 0⟩).cells 30))
  have HE2 := Lib.hid (cell?_alloc_old (.cells (Plf.mk (N - 49152) ⟨0, 0, 0, 0, 0, 0⟩ ⟨0, 0, 0, 0, 0, 0⟩).cells 30) ((HB2.out.cell (cell_lt' HE0.out)).trans HE0.out))
  clear HE0
  cases f1 : (v1 != 0)
  · have hz : v1 = 0 := by simpa [bne] using f1
    have hN : N < 49152 := hf.resolve_left (fun h => h hz)
    have dN : decide (N - 49152 < 0) = true := by simp; omega
    go_wp2_with (refine wpList_store_row rfl 30 (.tmp 5) (.tmp 16) rfl w2.heap.size (Plf.mk (N - 49152) ⟨0, 0, 0, 0, 0, 0⟩ ⟨0, 0, 0, 0, 0, 0⟩).cells rfl rfl 30 p0.cells (heap_alloc_last _ _) sizePoll rfl (Plf.oneCell _) ?_; rw [World.setRow_alloc_new]; generalize World.alloc w2 _ = w3 at *; have c1 := HV.out w3 HR3.out; have d0 := cell_of_row w3 w2.heap.size 0 _ _ _ HF3.out; dsimp only [Plf.cells] at d0; have he := HE2.out)
    refine wp_region_held_drew (S := fun w' => w' = w3.drew) (by kernel_rfl) rfl (fun hHeld => ?_)
    refine wpAnyH_take (i := 0) (v := .agg p0.cells) rfl (by kernel_rfl) (by kernel_rfl) (by kernel_rfl) (fun _ _ _ h => h) (Or.inl ⟨by rfl, ?_⟩) (by assumption) ?_
    · intro w hSw
      go_simp
    refine wpAnyH_take (i := 1) (v := errP a) rfl (by kernel_rfl) (by kernel_rfl) (by kernel_rfl) (fun _ _ _ h => h) (Or.inl ⟨by rfl, ?_⟩) (by assumption) ?_
    · rintro w rfl
      go_simp
    refine wpAnyH_ready (rs := [2]) (by kernel_rfl) (by simp) ?_
    refine AllReadyH.cons rfl (fun K hK => ?_) AllReadyH.nil
    rw [if_pos (by rfl)]
    refine wp_store_row _ _ _ rfl w.heap.size p0.cells rfl rfl _ p0.cells HG3.out sizePoll rfl p0.oneCell ?_
    rw [setRow_same _ _ _ _ _ (show w3.drew.heap[w.heap.size]? = _ from HG3.out)]
    refine hK.out _ _ rfl (fun hHeld => ?_)
    refine wpAnyH_take (i := 3) (v := errP a) rfl (by kernel_rfl) (by kernel_rfl) (by kernel_rfl) (fun _ _ _ h => h) (Or.inl ⟨by rfl, ?_⟩) (by assumption) ?_
    · rintro w rfl
      go_simp
    refine wpAnyH_done (by kernel_rfl) ?_ _
    simp only [Act.put, List.setIfInBounds_toArray, List.set_cons_zero, List.set_cons_succ]
    go_wp2
    refine bodyPost_ret (v := .tuple #[.agg p0.cells, errP a]) (results_cell_slot (p := 2) (q := 3) Tryd.results19 _ _ w.heap.size _ p0.cells _ _ rfl (show w3.drew.heap[w.heap.size]? = _ from HG3.out) Tryd.underlying30 rfl sizePoll) rfl ⟨rfl, HB3.out.drew⟩
  · go_wp2_with (refine wpList_store_row rfl 30 (.tmp 5) (.tmp 16) rfl w2.heap.size (Plf.mk (N - 49152) ⟨0, 0, 0, 0, 0, 0⟩ ⟨0, 0, 0, 0, 0, 0⟩).cells rfl rfl 30 p0.cells (heap_alloc_last _ _) sizePoll rfl (Plf.oneCell _) ?_; rw [World.setRow_alloc_new]; generalize World.alloc w2 _ = w3 at *; have c1 := HV.out w3 HR3.out; have d0 := cell_of_row w3 w2.heap.size 0 _ _ _ HF3.out; dsimp only [Plf.cells] at d0; have he := HE2.out)
    refine wp_region_held_drew (S := fun w' => w' = w3.drew) (by kernel_rfl) rfl (fun hHeld => ?_)
    refine wpAnyH_take (i := 0) (v := .agg p0.cells) rfl (by kernel_rfl) (by kernel_rfl) (by kernel_rfl) (fun _ _ _ h => h) (Or.inl ⟨by rfl, ?_⟩) (by assumption) ?_
    · intro w hSw
      go_simp
    refine wpAnyH_take (i := 1) (v := errP a) rfl (by kernel_rfl) (by kernel_rfl) (by kernel_rfl) (fun _ _ _ h => h) (Or.inl ⟨by rfl, ?_⟩) (by assumption) ?_
    · rintro w rfl
      go_simp
    refine wpAnyH_ready (rs := [2]) (by kernel_rfl) (by simp) ?_
    refine AllReadyH.cons rfl (fun K hK => ?_) AllReadyH.nil
    rw [if_pos (by rfl)]
    refine wp_store_row _ _ _ rfl w.heap.size p0.cells rfl rfl _ p0.cells HG3.out sizePoll rfl p0.oneCell ?_
    rw [setRow_same _ _ _ _ _ (show w3.drew.heap[w.heap.size]? = _ from HG3.out)]
    refine hK.out _ _ rfl (fun hHeld => ?_)
    refine wpAnyH_take (i := 3) (v := errP a) rfl (by kernel_rfl) (by kernel_rfl) (by kernel_rfl) (fun _ _ _ h => h) (Or.inl ⟨by rfl, ?_⟩) (by assumption) ?_
    · rintro w rfl
      go_simp
    refine wpAnyH_done (by kernel_rfl) ?_ _
    simp only [Act.put, List.setIfInBounds_toArray, List.set_cons_zero, List.set_cons_succ]
    go_wp2
    refine bodyPost_ret (v := .tuple #[.agg p0.cells, errP a]) (results_cell_slot (p := 2) (q := 3) Tryd.results19 _ _ w.heap.size _ p0.cells _ _ rfl (show w3.drew.heap[w.heap.size]? = _ from HG3.out) Tryd.underlying30 rfl sizePoll) rfl ⟨rfl, HB3.out.drew⟩

set_option maxRecDepth 100000 in
set_option maxHeartbeats 8000000 in
theorem rp_range (A : Option Addr) (n c : Nat) (xs : List Int) (E : Nat → Addr) (w : World) (h : RowB .u8 w A n xs) (hS : Sent w E S4) (hnc : n ≤ c) (hb : begC xs n 164 16 = 0) (h1 : xs.getD 1 0 = 0) (h2 : 49152 ≤ numAt xs 2) (h3 : okAID (numAt xs 2 - 49152) = false) :
    Calls Tryd.prog 19 #[.slice A n c] w fun e w' => e = .returned (.tuple #[p0.val, errP (E 103)]) ∧ Below w.heap.size w w' := by
  obtain ⟨hn, hk⟩ := begC_fine hb (by omega)
  have HB := Lib.hid ((Below.refl w.heap.size w).alloc (Nat.le_refl _) (.cells p0.cells 30))
  have HC := Lib.hid (begins_any A n c xs 164 16 E _ (h.below HB.out) (hS.below HB.out))
  rw [hb, errV_zero] at HC
  have hn16 : n = 16 := by omega
  subst hn16
  have HG := Lib.hid (heap_alloc_last w (.cells p0.cells 30))
  have HR := Lib.hid (h.below HB.out)
  obtain ⟨b, off, rfl, hc⟩ := HR.out.cells (by omega)
  have hnc' : (16 : Int) ≤ (c : Int) := by omega
  have HT := Lib.hid (number_off 2 b off 16 c xs (w.alloc (.cells p0.cells 30)) HR.out (by omega))
  obtain ⟨t0, t1⟩ := numAt_wf HR.out 2 (by omega)
  have he := hS.at_ 103 (by decide)
  simp only [gOf] at he
  generalize E 103 = a at *
  have HE0 := Lib.hid he
  clear he
  have d2 : (c = 2) = False := by simp; omega
  clear hc h hb hk hS
  have HD := Lib.hid (show decP xs = ⟨numAt xs 2 - 49152, six xs 4, six xs 10⟩ from rfl)
  have HI := Lib.hid (mayBeAID_any (numAt xs 2 - 49152))
  generalize numAt xs 2 = N at *
  have HV := Lib.hid (show ∀ w' : World, RowB .u8 w' (some ⟨b, off, none⟩) 16 xs → w'.cell? ⟨b, off + 1, none⟩ = some (.int .u8 (xs.getD 1 0)) from fun w' h => h.at_ 1 (by omega))
  generalize xs.getD 1 0 = v1 at *
  have x1 : IntKind.i64.wrap (N - 49152) = N - 49152 := IntWalk.i64_in _ ⟨by omega, by omega⟩
  go_enter Tryd.func19, Tryd.ntmps19
  go_wp2_with (fail)
  refine HC.out.mono ?_
  rintro e w2 ⟨rfl, rfl⟩
  have HL := Lib.hid (show w.heap.size < (w.alloc (.cells p0.cells 30)).heap.size by simp)
  generalize w.alloc (.cells p0.cells 30) = w1 at *
  clear HC
  go_wp2_with (fail)
  refine HT.out.mono ?_
  rintro e w2 ⟨rfl, m, rfl⟩
  have HB2 := Lib.hid (below_drewN HB.out m)
  have HG2 := Lib.hid (show (w1.drewN m).heap[w.heap.size]? = some (.cells p0.cells 30 (0, 0)) from HG.out)
  have HR2 := Lib.hid (HR.out.drewN m)
  have HL2 := Lib.hid (show w.heap.size < (w1.drewN m).heap.size from HL.out)
  generalize w1.drewN m = w2 at *
  clear HT HB HG HR HL
  have HA3 := Lib.hid ((Below.refl w2.heap.size w2).alloc (Nat.le_refl _) (.cells (Plf.mk (N - 49152) ⟨0, 0, 0, 0, 0, 0⟩ ⟨0, 0, 0, 0, 0, 0⟩).cells 30))
  have HB3 := Lib.hid (HB2.out.trans (HA3.out.mono HB2.out.size))
  have HG3 := Lib.hid ((HA3.out.block _ HL2.out).trans HG2.out)
  have HR3 := Lib.hid (HR2.out.below HA3.out)
  have HF3 := Lib.hid (heap_alloc_last w2 (.cells (Plf.mk (N - 49152) ⟨0, 0, 0, 0, 0, 0⟩ ⟨0, 0, 0, 0, 0, 0⟩).cells 30))
  have HE2 := Lib.hid (cell?_alloc_old (.cells (Plf.mk (N - 49152) ⟨0, 0, 0, 0, 0, 0⟩ ⟨0, 0, 0, 0, 0, 0⟩).cells 30) ((HB2.out.cell (cell_lt' HE0.out)).trans HE0.out))
  clear HE0
  have f1 : (v1 != 0) = false := by simp [h1]
  have dN : decide (N - 49152 < 0) = false := by simp; omega
  rw [h3] at HI
  go_wp2_with (refine wpList_store_row rfl 30 (.tmp 5) (.tmp 16) rfl w2.heap.size (Plf.mk (N - 49152) ⟨0, 0, 0, 0, 0, 0⟩ ⟨0, 0, 0, 0, 0, 0⟩).cells rfl rfl 30 p0.cells (heap_alloc_last _ _) sizePoll rfl (Plf.oneCell _) ?_; rw [World.setRow_alloc_new]; generalize World.alloc w2 _ = w3 at *; have c1 := HV.out w3 HR3.out; have d0 := cell_of_row w3 w2.heap.size 0 _ _ _ HF3.out; dsimp only [Plf.cells] at d0; have he := HE2.out)
  refine (HI.out _).mono ?_
  rintro e w4 ⟨rfl, rfl⟩
  go_wp2_with (fail)
  refine wp_region_held_drew (S := fun w' => w' = w3.drew) (by kernel_rfl) rfl (fun hHeld => ?_)
  refine wpAnyH_take (i := 0) (v := .agg p0.cells) rfl (by kernel_rfl) (by kernel_rfl) (by kernel_rfl) (fun _ _ _ h => h) (Or.inl ⟨by rfl, ?_⟩) (by assumption) ?_
  · intro w hSw
    go_simp
  refine wpAnyH_take (i := 1) (v := errP a) rfl (by kernel_rfl) (by kernel_rfl) (by kernel_rfl) (fun _ _ _ h => h) (Or.inl ⟨by rfl, ?_⟩) (by assumption) ?_
  · rintro w rfl
    go_simp
  refine wpAnyH_ready (rs := [2]) (by kernel_rfl) (by simp) ?_
  refine AllReadyH.cons rfl (fun K hK => ?_) AllReadyH.nil
  rw [if_pos (by rfl)]
  refine wp_store_row _ _ _ rfl w.heap.size p0.cells rfl rfl _ p0.cells HG3.out sizePoll rfl p0.oneCell ?_
  rw [setRow_same _ _ _ _ _ (show w3.drew.heap[w.heap.size]? = _ from HG3.out)]
  refine hK.out _ _ rfl (fun hHeld => ?_)
  refine wpAnyH_take (i := 3) (v := errP a) rfl (by kernel_rfl) (by kernel_rfl) (by kernel_rfl) (fun _ _ _ h => h) (Or.inl ⟨by rfl, ?_⟩) (by assumption) ?_
  · rintro w rfl
    go_simp
  refine wpAnyH_done (by kernel_rfl) ?_ _
  simp only [Act.put, List.setIfInBounds_toArray, List.set_cons_zero, List.set_cons_succ]
  go_wp2
  refine bodyPost_ret (v := .tuple #[.agg p0.cells, errP a]) (results_cell_slot (p := 2) (q := 3) Tryd.results19 _ _ w.heap.size _ p0.cells _ _ rfl (show w3.drew.heap[w.heap.size]? = _ from HG3.out) Tryd.underlying30 rfl sizePoll) rfl ⟨rfl, HB3.out.drew⟩

set_option maxRecDepth 100000 in
set_option maxHeartbeats 8000000 in
theorem rp_good (A : Option Addr) (n c : Nat) (xs : List Int) (E : Nat → Addr) (w : World) (h : RowB .u8 w A n xs) (hS : Sent w E S4) (hnc : n ≤ c) (hb : begC xs n 164 16 = 0) (h1 : xs.getD 1 0 = 0) (h2 : 49152 ≤ numAt xs 2) (h3 : okAID (numAt xs 2 - 49152) = true) :
    Calls Tryd.prog 19 #[.slice A n c] w fun e w' => e = .returned (.tuple #[(decP xs).val, .nilIface]) ∧ Below w.heap.size w w' := by
  obtain ⟨hn, hk⟩ := begC_fine hb (by omega)
  have HB := Lib.hid ((Below.refl w.heap.size w).alloc (Nat.le_refl _) (.cells p0.cells 30))
  have HC := Lib.hid (begins_any A n c xs 164 16 E _ (h.below HB.out) (hS.below HB.out))
  rw [hb, errV_zero] at HC
  have hn16 : n = 16 := by omega
  subst hn16
  have HG := Lib.hid (heap_alloc_last w (.cells p0.cells 30))
  have HR := Lib.hid (h.below HB.out)
  obtain ⟨b, off, rfl, hc⟩ := HR.out.cells (by omega)
  have hnc' : (16 : Int) ≤ (c : Int) := by omega
  have HT := Lib.hid (number_off 2 b off 16 c xs (w.alloc (.cells p0.cells 30)) HR.out (by omega))
  obtain ⟨t0, t1⟩ := numAt_wf HR.out 2 (by omega)
  have d2 : (c = 2) = False := by simp; omega
  clear hc h hb hk hS
  have HD := Lib.hid (show decP xs = ⟨numAt xs 2 - 49152, six xs 4, six xs 10⟩ from rfl)
  have HI := Lib.hid (mayBeAID_any (numAt xs 2 - 49152))
  generalize numAt xs 2 = N at *
  have HV := Lib.hid (show ∀ w' : World, RowB .u8 w' (some ⟨b, off, none⟩) 16 xs → w'.cell? ⟨b, off + 1, none⟩ = some (.int .u8 (xs.getD 1 0)) from fun w' h => h.at_ 1 (by omega))
  generalize xs.getD 1 0 = v1 at *
  have x1 : IntKind.i64.wrap (N - 49152) = N - 49152 := IntWalk.i64_in _ ⟨by omega, by omega⟩
  go_enter Tryd.func19, Tryd.ntmps19
  go_wp2_with (fail)
  refine HC.out.mono ?_
  rintro e w2 ⟨rfl, rfl⟩
  have HL := Lib.hid (show w.heap.size < (w.alloc (.cells p0.cells 30)).heap.size by simp)
  generalize w.alloc (.cells p0.cells 30) = w1 at *
  clear HC
  go_wp2_with (fail)
  refine HT.out.mono ?_
  rintro e w2 ⟨rfl, m, rfl⟩
  have HB2 := Lib.hid (below_drewN HB.out m)
  have HG2 := Lib.hid (show (w1.drewN m).heap[w.heap.size]? = some (.cells p0.cells 30 (0, 0)) from HG.out)
  have HR2 := Lib.hid (HR.out.drewN m)
  have HL2 := Lib.hid (show w.heap.size < (w1.drewN m).heap.size from HL.out)
  generalize w1.drewN m = w2 at *
  clear HT HB HG HR HL
  have HA3 := Lib.hid ((Below.refl w2.heap.size w2).alloc (Nat.le_refl _) (.cells (Plf.mk (N - 49152) ⟨0, 0, 0, 0, 0, 0⟩ ⟨0, 0, 0, 0, 0, 0⟩).cells 30))
  have HB3 := Lib.hid (HB2.out.trans (HA3.out.mono HB2.out.size))
  have HG3 := Lib.hid ((HA3.out.block _ HL2.out).trans HG2.out)
  have HR3 := Lib.hid (HR2.out.below HA3.out)
  have HF3 := Lib.hid (heap_alloc_last w2 (.cells (Plf.mk (N - 49152) ⟨0, 0, 0, 0, 0, 0⟩ ⟨0, 0, 0, 0, 0, 0⟩).cells 30))
  have f1 : (v1 != 0) = false := by simp [h1]
  have dN : decide (N - 49152 < 0) = false := by simp; omega
  rw [h3] at HI
  go_wp2_with (refine wpList_store_row rfl 30 (.tmp 5) (.tmp 16) rfl w2.heap.size (Plf.mk (N - 49152) ⟨0, 0, 0, 0, 0, 0⟩ ⟨0, 0, 0, 0, 0, 0⟩).cells rfl rfl 30 p0.cells (heap_alloc_last _ _) sizePoll rfl (Plf.oneCell _) ?_; rw [World.setRow_alloc_new]; generalize World.alloc w2 _ = w3 at *; have c1 := HV.out w3 HR3.out; have d0 := cell_of_row w3 w2.heap.size 0 _ _ _ HF3.out; dsimp only [Plf.cells] at d0)
  refine (HI.out _).mono ?_
  rintro e w4 ⟨rfl, rfl⟩
  have d4 : (c = 4) = False := by simp; omega
  have d10 : (c = 10) = False := by simp; omega
  have HA := Lib.hid HA3.out
  clear c1 d0 HV HI HA3
  go_wp2
  go_region_law ((refine step_copy_into rfl (.tmp 37) (.tmp 39) 32 5 rfl Tryd.underlying32 sizeU8 w2.heap.size 1 6 6 ⟨b, off + 4, none⟩ (16 - 4) (c - 4) rfl rfl (Plf.mk (N - 49152) ⟨0, 0, 0, 0, 0, 0⟩ ⟨0, 0, 0, 0, 0, 0⟩).cells (Plf.mk (N - 49152) (six xs 4) ⟨0, 0, 0, 0, 0, 0⟩).cells 30 HF3.out (six xs 4).cells.toList rfl (six_cells (HR3.out.drewN 1) 4 (by omega)) (by simp) (six xs 4).one rfl ?_; intro w5 hg ho hb))
  have HF3' := Lib.hid hg.out
  have HB3' := Lib.hid (hb.out w2.heap.size w2 (HA.out.drew) (Nat.le_refl _))
  clear HF3 HA hg ho hb
  have HF3 := HF3'
  have HA := HB3'
  have HR3 := Lib.hid (HR2.out.below HA.out)
  clear HF3' HB3'
  go_wp2
  go_region_law ((refine step_copy_into rfl (.tmp 42) (.tmp 44) 32 5 rfl Tryd.underlying32 sizeU8 w2.heap.size 7 6 6 ⟨b, off + 10, none⟩ (16 - 10) (c - 10) rfl rfl (Plf.mk (N - 49152) (six xs 4) ⟨0, 0, 0, 0, 0, 0⟩).cells (Plf.mk (N - 49152) (six xs 4) (six xs 10)).cells 30 HF3.out (six xs 10).cells.toList rfl (six_cells (HR3.out.drewN 1) 10 (by omega)) (by simp) (six xs 10).one rfl ?_; intro w6 hg ho hb))
  have HF3' := Lib.hid hg.out
  have HB3' := Lib.hid (hb.out w2.heap.size w2 (HA.out.drew) (Nat.le_refl _))
  clear HF3 HA hg ho hb
  have HF3 := HF3'
  have HA := HB3'
  have HR3 := Lib.hid (HR2.out.below HA.out)
  clear HF3' HB3'
  have HGr := Lib.hid ((HA.out.block _ HL2.out).trans HG2.out)
  have HBr := Lib.hid (HB2.out.trans (HA.out.mono HB2.out.size))
  go_wp2_with (first | (refine wpList_load_row rfl 30 (.tmp 5) rfl w2.heap.size rfl 30 (Plf.mk (N - 49152) (six xs 4) (six xs 10)).cells (0, 0) _ HF3.out Tryd.underlying30 rfl sizePoll ?_) | (refine wpList_store_row rfl 30 (.tmp 2) (.tmp 46) rfl w.heap.size (Plf.mk (N - 49152) (six xs 4) (six xs 10)).cells rfl rfl 30 p0.cells HGr.out sizePoll rfl (Plf.oneCell _) ?_))
  have HGz := Lib.hid (setRow_heap w6 w.heap.size p0.cells (Plf.mk (N - 49152) (six xs 4) (six xs 10)).cells 30 (0, 0) HGr.out)
  refine bodyPost_ret (v := .tuple #[.agg (Plf.mk (N - 49152) (six xs 4) (six xs 10)).cells, .nilIface]) (results_cell_slot (p := 2) (q := 3) Tryd.results19 _ _ w.heap.size _ (Plf.mk (N - 49152) (six xs 4) (six xs 10)).cells _ _ rfl HGz.out Tryd.underlying30 rfl sizePoll) rfl ⟨by rw [HD.out], below_setRow HBr.out (Nat.le_refl _) _⟩

theorem readPoll_all (A : Option Addr) (n c : Nat) (xs : List Int) (E : Nat → Addr) (w : World) (h : RowB .u8 w A n xs) (hS : Sent w E S4) (hnc : n ≤ c) :
    Calls Tryd.prog 19 #[.slice A n c] w fun e w' => e = .returned (.tuple #[(outP xs n).val, errV E (rdP xs n)]) ∧ Below w.heap.size w w' := by
  by_cases hb : begC xs n 164 16 = 0
  · by_cases h1 : xs.getD 1 0 ≠ 0 ∨ numAt xs 2 < 49152
    · have hr : rdP xs n = 102 := by unfold rdP; rw [if_neg (by simp [hb]), if_pos h1]
      refine (rp_shape A n c xs E w h hS hnc hb h1).mono ?_
      rintro e w' ⟨rfl, hB⟩
      exact ⟨by rw [outP, if_neg (by rw [hr]; decide), hr]; rfl, hB⟩
    · have h11 : xs.getD 1 0 = 0 := by
        by_cases h : xs.getD 1 0 = 0
        · exact h
        · exact absurd (Or.inl h) h1
      have h12 : 49152 ≤ numAt xs 2 := by
        by_cases h : numAt xs 2 < 49152
        · exact absurd (Or.inr h) h1
        · omega
      cases h3 : okAID (numAt xs 2 - 49152)
      · have hr : rdP xs n = 103 := by unfold rdP; rw [if_neg (by simp [hb]), if_neg h1, if_neg (by simp [h3])]
        refine (rp_range A n c xs E w h hS hnc hb h11 h12 h3).mono ?_
        rintro e w' ⟨rfl, hB⟩
        exact ⟨by rw [outP, if_neg (by rw [hr]; decide), hr]; rfl, hB⟩
      · have hr : rdP xs n = 0 := by unfold rdP; rw [if_neg (by simp [hb]), if_neg h1, if_pos h3]
        refine (rp_good A n c xs E w h hS hnc hb h11 h12 h3).mono ?_
        rintro e w' ⟨rfl, hB⟩
        exact ⟨by rw [outP, if_pos hr, hr]; rfl, hB⟩
  · have hr : rdP xs n = begC xs n 164 16 := by unfold rdP; rw [if_pos hb]
    refine (rp_beg A n c xs E w h hS hnc hb).mono ?_
    rintro e w' ⟨rfl, hB⟩
    exact ⟨by rw [outP, if_neg (by rw [hr]; exact hb), hr, errV_pos E hb], hB⟩
end Go.Proofs.YtpiiodnhiolfbaaDoor
