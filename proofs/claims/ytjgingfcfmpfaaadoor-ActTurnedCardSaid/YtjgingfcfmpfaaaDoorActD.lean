/-
  CONTRACT of act.AddBytes.
-/
import Derived.Test.YtjgingfcfmpfaaaDoorActC
namespace Go.Proofs.YtjgingfcfmpfaaaDoor
open Go.ChangeShapes Go.WideShapes Go.ChangeAt Go.RowKit
set_option linter.unusedVariables false
set_option linter.unusedSimpArgs false

set_option maxRecDepth 100000 in
set_option maxHeartbeats 8000000 in
theorem add_no (q : Adf) (E : Nat → Addr) (w : World) (hok : okAdd q = false) (hS : Sent w E S4) :
    Calls Tryd.prog 8 #[q.val] w fun e w' => e = .returned (.tuple #[.slice none 0 0, errP (E 103)]) ∧ Below w.heap.size w w' := by
  have he := hS.at_ 103 (by decide)
  simp only [gOf] at he
  generalize E 103 = a at *
  have HB := Lib.hid ((Below.refl w.heap.size w).alloc (Nat.le_refl _) (.cells q.cells 25))
  have HG := Lib.hid (heap_alloc_last w (.cells q.cells 25))
  have HE := Lib.hid (cell?_alloc_old (.cells q.cells 25) he)
  have HI := Lib.hid (mayBe_any q (w.alloc (.cells q.cells 25)))
  rw [hok] at HI
  clear he hS hok
  go_enter Tryd.func8, Tryd.ntmps8
  go_wp2_with (refine wpList_load_row rfl 25 (.tmp 1) rfl w.heap.size rfl 25 q.cells (0, 0) _ HG.out Tryd.underlying25 rfl sizeAdd ?_)
  refine HI.out.mono ?_
  rintro e w2 ⟨rfl, hB⟩
  have HB2 := Lib.hid (HB.out.trans (hB.mono HB.out.size))
  have he2 := (hB.cell (cell_lt' HE.out)).trans HE.out
  clear hB
  go_wp2
  go_quiet (fail)
  go_wp2
  go_ret2
  exact ⟨rfl, below_drewN HB2.out _⟩

set_option maxRecDepth 100000 in
set_option maxHeartbeats 8000000 in
theorem add_ans (q : Adf) (w : World) (hok : okAdd q = true) (hm : q.ans = true) :
    Calls Tryd.prog 8 #[q.val] w fun e w' => ∃ g cap, e = .returned (.tuple #[.slice (some ⟨g, 0, none⟩) 33 cap, .nilIface]) ∧ OwnB w' w.heap.size 5 .u8 g 33 cap (encAdd q) ∧ Below w.heap.size w w' := by
  obtain ⟨⟨t0, t1⟩, ⟨i0, i1⟩, ⟨s0, s1⟩, ⟨m0, m1⟩, ⟨a0, a1⟩, ⟨n0, n1⟩, -⟩ := (okAdd_iff q).1 hok
  have x1 : IntKind.i64.wrap (q.tid * 4) = q.tid * 4 := IntWalk.i64_in _ ⟨by omega, by omega⟩
  have x2 : IntKind.i64.wrap (2 + q.tid * 4) = 2 + q.tid * 4 := IntWalk.i64_in _ ⟨by omega, by omega⟩
  have x3 : IntKind.i64.wrap (q.size * 64) = q.size * 64 := IntWalk.i64_in _ ⟨by omega, by omega⟩
  have x4 : IntKind.i64.wrap (2 + q.tid * 4 + q.size * 64) = 2 + q.tid * 4 + q.size * 64 := IntWalk.i64_in _ ⟨by omega, by omega⟩
  have x5 : IntKind.u8.wrap q.tok = q.tok := IntWalk.u8_in _ ⟨by omega, by omega⟩
  have x6 : IntKind.i64.wrap (q.seq * 16) = q.seq * 16 := IntWalk.i64_in _ ⟨by omega, by omega⟩
  have HPar := Lib.hid (show par q = 2 + q.tid * 4 + q.size * 64 from rfl)
  have HB := Lib.hid ((Below.refl w.heap.size w).alloc (Nat.le_refl _) (.cells q.cells 25))
  have HG := Lib.hid (heap_alloc_last w (.cells q.cells 25))
  have HZ := Lib.hid (show w.heap.size < (w.alloc (.cells q.cells 25)).heap.size by simp)
  have HC := Lib.hid (cells_new w q.cells 25)
  have HI := Lib.hid (mayBe_any q (w.alloc (.cells q.cells 25)))
  have HQB := Lib.hid (show ∀ w' : World, w'.cell? ⟨w.heap.size, 18, none⟩ = q.cells[18]? → w'.cell? ⟨w.heap.size, 18, none⟩ = some (.bool q.ans) from fun _ h => h)
  rw [hok] at HI
  clear hok
  have HE := Lib.hid (show encH 1 q.t q.f q.b ++ [q.tok] ++ [q.st % 256, q.st / 256] ++ [par q % 256, par q / 256] ++ [q.tmo % 256, q.tmo / 256] = encAdd q by unfold encAdd; rw [hm]; rfl)
  rw [HPar.out] at HE
  rw [hm] at HQB
  go_enter Tryd.func8, Tryd.ntmps8
  go_wp2_with (refine wpList_load_row rfl 25 (.tmp 1) rfl w.heap.size rfl 25 q.cells (0, 0) _ HG.out Tryd.underlying25 rfl sizeAdd ?_)
  refine HI.out.mono ?_
  rintro e w1 ⟨rfl, hB⟩
  have HB1 := Lib.hid (HB.out.trans (hB.mono HB.out.size))
  have HC1 := Lib.hid (fun i => (hB.cell (p := ⟨w.heap.size, i, none⟩) HZ.out).trans (HC.out i))
  have HZ1 := Lib.hid (Nat.lt_of_lt_of_le HZ.out hB.size)
  clear hB HG HI HB HC HZ
  have HB := HB1
  have HC := HC1
  have HZ := HZ1
  clear HB1 HC1 HZ1
  have HQ := Lib.hid (show ∀ (w' : World) (i : Nat), Below w1.heap.size w1 w' → w'.cell? ⟨w.heap.size, i, none⟩ = q.cells[i]? from
    fun w' i hb => (hb.cell HZ.out).trans (HC.out i))
  have HRG := Lib.hid (show ∀ (w' : World) (o : Nat) (x : A6), Below w1.heap.size w1 w' → (∀ j u, (x.l.map (Value.int .u8))[j]? = some u → q.cells[o + j]? = some u) → w'.rangeAt w.heap.size o x.cells.toList from
    fun w' o x hb hx j v hv => (HQ.out w' (o + j) hb).trans (hx j v (show (x.l.map (Value.int .u8))[j]? = some v from hv)))
  have c18 := HQB.out w1 (HC.out 18)
  have c20 := HC.out 20
  have c21 := HC.out 21
  dsimp only [Adf.cells] at c18 c20 c21
  go_wp2
  clear c18 c20 c21
  have HB3 := Lib.hid ((Below.refl w1.heap.size w1).drew)
  refine wp_region_held_drew (S := fun w' => Below w1.heap.size w1 w') (by kernel_rfl) HB3.out (fun hHeld => ?_)
  generalize World.drew w1 = w3 at *
  refine wpAnyH_take (i := 0) (v := ?_) rfl (by kernel_rfl) (by kernel_rfl) (by kernel_rfl) (fun _ _ _ h => h) (Or.inl ⟨by rfl, ?_⟩) (by assumption) ?_
  rotate_left
  · intro w hSw
    clear hSw
    go_simp
    try with_reducible rfl
  try simp only [Act.put, List.getElem_toArray, List.getElem_cons_zero, List.getElem_cons_succ, List.setIfInBounds_toArray, List.set_cons_zero, List.set_cons_succ]
  refine wpAnyH_take (i := 1) (v := .agg q.t.cells) rfl (by kernel_rfl) (by kernel_rfl) (by kernel_rfl) (fun _ _ _ h => h) (yieldsIf_load_mid (by rfl) 23 (.tmp 21) rfl w.heap.size 0 rfl q.t.cells.toList _ (fun w' hw' => HRG.out w' 0 q.t hw' (src6 (six_in rfl rfl rfl rfl rfl rfl))) Tryd.underlying23 rfl size6) (by assumption) ?_
  try simp only [Act.put, List.getElem_toArray, List.getElem_cons_zero, List.getElem_cons_succ, List.setIfInBounds_toArray, List.set_cons_zero, List.set_cons_succ]
  refine wpAnyH_take (i := 2) (v := ?_) rfl (by kernel_rfl) (by kernel_rfl) (by kernel_rfl) (fun _ _ _ h => h) (Or.inl ⟨by rfl, ?_⟩) (by assumption) ?_
  rotate_left
  · intro w hSw
    clear hSw
    go_simp
    try with_reducible rfl
  try simp only [Act.put, List.getElem_toArray, List.getElem_cons_zero, List.getElem_cons_succ, List.setIfInBounds_toArray, List.set_cons_zero, List.set_cons_succ]
  refine wpAnyH_take (i := 3) (v := .agg q.f.cells) rfl (by kernel_rfl) (by kernel_rfl) (by kernel_rfl) (fun _ _ _ h => h) (yieldsIf_load_mid (by rfl) 23 (.tmp 23) rfl w.heap.size 6 rfl q.f.cells.toList _ (fun w' hw' => HRG.out w' 6 q.f hw' (src6 (six_in rfl rfl rfl rfl rfl rfl))) Tryd.underlying23 rfl size6) (by assumption) ?_
  try simp only [Act.put, List.getElem_toArray, List.getElem_cons_zero, List.getElem_cons_succ, List.setIfInBounds_toArray, List.set_cons_zero, List.set_cons_succ]
  refine wpAnyH_take (i := 4) (v := ?_) rfl (by kernel_rfl) (by kernel_rfl) (by kernel_rfl) (fun _ _ _ h => h) (Or.inl ⟨by rfl, ?_⟩) (by assumption) ?_
  rotate_left
  · intro w hSw
    clear hSw
    go_simp
    try with_reducible rfl
  try simp only [Act.put, List.getElem_toArray, List.getElem_cons_zero, List.getElem_cons_succ, List.setIfInBounds_toArray, List.set_cons_zero, List.set_cons_succ]
  refine wpAnyH_take (i := 5) (v := .agg q.b.cells) rfl (by kernel_rfl) (by kernel_rfl) (by kernel_rfl) (fun _ _ _ h => h) (yieldsIf_load_mid (by rfl) 23 (.tmp 25) rfl w.heap.size 12 rfl q.b.cells.toList _ (fun w' hw' => HRG.out w' 12 q.b hw' (src6 (six_in rfl rfl rfl rfl rfl rfl))) Tryd.underlying23 rfl size6) (by assumption) ?_
  try simp only [Act.put, List.getElem_toArray, List.getElem_cons_zero, List.getElem_cons_succ, List.setIfInBounds_toArray, List.set_cons_zero, List.set_cons_succ]
  refine wpAnyH_take (i := 7) (v := ?_) rfl (by kernel_rfl) (by kernel_rfl) (by kernel_rfl) (fun _ _ _ h => h) (Or.inl ⟨by rfl, ?_⟩) (by assumption) ?_
  rotate_left
  · intro w hSw
    clear hSw
    go_simp
    try with_reducible rfl
  try simp only [Act.put, List.getElem_toArray, List.getElem_cons_zero, List.getElem_cons_succ, List.setIfInBounds_toArray, List.set_cons_zero, List.set_cons_succ]
  refine wpAnyH_take (i := 8) (v := ?_) rfl (by kernel_rfl) (by kernel_rfl) (by kernel_rfl) (fun _ _ _ h => h) (Or.inl ⟨by rfl, ?_⟩) (by assumption) ?_
  rotate_left
  · intro w hSw
    have c := HQ.out w 19 hSw
    dsimp only [Adf.cells] at c
    clear hSw
    go_simp
    try with_reducible rfl
  try simp only [Act.put, List.getElem_toArray, List.getElem_cons_zero, List.getElem_cons_succ, List.setIfInBounds_toArray, List.set_cons_zero, List.set_cons_succ]
  refine wpAnyH_take (i := 9) (v := ?_) rfl (by kernel_rfl) (by kernel_rfl) (by kernel_rfl) (fun _ _ _ h => h) (Or.inl ⟨by rfl, ?_⟩) (by assumption) ?_
  rotate_left
  · intro w hSw
    clear hSw
    go_simp
    try with_reducible rfl
  try simp only [Act.put, List.getElem_toArray, List.getElem_cons_zero, List.getElem_cons_succ, List.setIfInBounds_toArray, List.set_cons_zero, List.set_cons_succ]
  refine wpAnyH_ready (rs := [6, 10]) (by kernel_rfl) (by simp) ?_
  refine AllReadyH.cons rfl (fun K hK => ?_) (AllReadyH.cons rfl (fun K hK => ?_) AllReadyH.nil)
  · go_simp
    refine (head_own 1 33 q.t q.f q.b _ (by omega) (by omega) (by omega) (by omega)).mono ?_
    rintro e' w4 ⟨g, cap, rfl, hO, hb⟩
    have HO4 := Lib.hid (hO.base HB3.out.size)
    have HB4 := Lib.hid (HB3.out.trans (hb.mono HB3.out.size))
    clear hO hb
    clear hHeld
    refine hK.out _ _ HB4.out (fun hHeld => ?_)
    clear hK K
    try simp only [Act.put, List.getElem_toArray, List.getElem_cons_zero, List.getElem_cons_succ, List.setIfInBounds_toArray, List.set_cons_zero, List.set_cons_succ]
    refine wpAnyH_ready (rs := [10]) (by kernel_rfl) (by simp) ?_
    refine AllReadyH.cons rfl (fun K hK => ?_) AllReadyH.nil
    have HZ5 := Lib.hid (heap_alloc_last w4 (.cells #[.int .u8 q.tok] 5))
    have HB5 := Lib.hid (HB4.out.alloc HB4.out.size (.cells #[.int .u8 q.tok] 5))
    have HE5 := Lib.hid (show w4.heap.size < (w4.alloc (.cells #[.int .u8 q.tok] 5)).heap.size by simp)
    have HO5 := Lib.hid (World.ownsRow.alloc HO4.out (.cells #[.int .u8 q.tok] 5))
    clear hHeld
    go_simp
    refine hK.out _ _ HB5.out (fun hHeld => ?_)
    clear hK K
    generalize World.alloc w4 _ = w5 at *
    generalize hh5 : w4.heap.size = h5 at *
    clear hh5
    try simp only [Act.put, List.getElem_toArray, List.getElem_cons_zero, List.getElem_cons_succ, List.setIfInBounds_toArray, List.set_cons_zero, List.set_cons_succ]
    refine wpAnyH_ready (rs := [11]) (by kernel_rfl) (by simp) ?_
    refine AllReadyH.cons rfl (fun K hK => ?_) AllReadyH.nil
    refine step_app_own rfl (.tmp 27) (.tmp 31) rfl w1.heap.size g 26 cap _ (by rfl) HO5.out ⟨h5, 0, none⟩ 1 1 [q.tok] (by rfl) rfl (by omega) (World.news_of_block (cs := #[.int .u8 q.tok]) (t := 5) (fr := (0, 0)) HZ5.out) (by omega) HB5.out.size ?_
    intro g7 cap7 w7 hO7 hb7
    have HB7 := Lib.hid (HB5.out.trans hb7.out)
    clear hHeld
    refine hK.out _ _ HB7.out (fun hHeld => ?_)
    clear hK K
    try simp only [Act.put, List.getElem_toArray, List.getElem_cons_zero, List.getElem_cons_succ, List.setIfInBounds_toArray, List.set_cons_zero, List.set_cons_succ]
    refine wpAnyH_take (i := 12) (v := ?_) rfl (by kernel_rfl) (by kernel_rfl) (by kernel_rfl) (fun _ _ _ h => h) (Or.inl ⟨by rfl, ?_⟩) (by assumption) ?_
    rotate_left
    · intro w hSw
      clear hSw
      go_simp
      try with_reducible rfl
    try simp only [Act.put, List.getElem_toArray, List.getElem_cons_zero, List.getElem_cons_succ, List.setIfInBounds_toArray, List.set_cons_zero, List.set_cons_succ]
    refine wpAnyH_done (by kernel_rfl) ?_ _
    clear hHeld hb7
    go_wp2
    have HB8 := Lib.hid HB7.out.drew
    have HO8 := Lib.hid (World.ownsRow.drew hO7.out)
    refine wp_region_held_drew (S := fun w' => Below w1.heap.size w1 w') (by kernel_rfl) HB8.out (fun hHeld => ?_)
    generalize World.drew w7 = w8 at *
    refine wpAnyH_take (i := 0) (v := ?_) rfl (by kernel_rfl) (by kernel_rfl) (by kernel_rfl) (fun _ _ _ h => h) (Or.inl ⟨by rfl, ?_⟩) (by assumption) ?_
    rotate_left
    · intro w hSw
      clear hSw
      go_simp
      try with_reducible rfl
    try simp only [Act.put, List.getElem_toArray, List.getElem_cons_zero, List.getElem_cons_succ, List.setIfInBounds_toArray, List.set_cons_zero, List.set_cons_succ]
    refine wpAnyH_take (i := 1) (v := ?_) rfl (by kernel_rfl) (by kernel_rfl) (by kernel_rfl) (fun _ _ _ h => h) (Or.inl ⟨by rfl, ?_⟩) (by assumption) ?_
    rotate_left
    · intro w hSw
      clear hSw
      go_simp
      try with_reducible rfl
    try simp only [Act.put, List.getElem_toArray, List.getElem_cons_zero, List.getElem_cons_succ, List.setIfInBounds_toArray, List.set_cons_zero, List.set_cons_succ]
    refine wpAnyH_take (i := 2) (v := ?_) rfl (by kernel_rfl) (by kernel_rfl) (by kernel_rfl) (fun _ _ _ h => h) (Or.inl ⟨by rfl, ?_⟩) (by assumption) ?_
    rotate_left
    · intro w hSw
      have c := HQ.out w 24 hSw
      dsimp only [Adf.cells] at c
      clear hSw
      go_simp
      try with_reducible rfl
    try simp only [Act.put, List.getElem_toArray, List.getElem_cons_zero, List.getElem_cons_succ, List.setIfInBounds_toArray, List.set_cons_zero, List.set_cons_succ]
    refine wpAnyH_take (i := 4) (v := ?_) rfl (by kernel_rfl) (by kernel_rfl) (by kernel_rfl) (fun _ _ _ h => h) (Or.inl ⟨by rfl, ?_⟩) (by assumption) ?_
    rotate_left
    · intro w hSw
      clear hSw
      go_simp
      try with_reducible rfl
    try simp only [Act.put, List.getElem_toArray, List.getElem_cons_zero, List.getElem_cons_succ, List.setIfInBounds_toArray, List.set_cons_zero, List.set_cons_succ]
    refine wpAnyH_take (i := 6) (v := ?_) rfl (by kernel_rfl) (by kernel_rfl) (by kernel_rfl) (fun _ _ _ h => h) (Or.inl ⟨by rfl, ?_⟩) (by assumption) ?_
    rotate_left
    · intro w hSw
      clear hSw
      go_simp
      try with_reducible rfl
    try simp only [Act.put, List.getElem_toArray, List.getElem_cons_zero, List.getElem_cons_succ, List.setIfInBounds_toArray, List.set_cons_zero, List.set_cons_succ]
    refine wpAnyH_take (i := 7) (v := ?_) rfl (by kernel_rfl) (by kernel_rfl) (by kernel_rfl) (fun _ _ _ h => h) (Or.inl ⟨by rfl, ?_⟩) (by assumption) ?_
    rotate_left
    · intro w hSw
      have c := HQ.out w 22 hSw
      dsimp only [Adf.cells] at c
      clear hSw
      go_simp
      try with_reducible rfl
    try simp only [Act.put, List.getElem_toArray, List.getElem_cons_zero, List.getElem_cons_succ, List.setIfInBounds_toArray, List.set_cons_zero, List.set_cons_succ]
    refine wpAnyH_ready (rs := [3]) (by kernel_rfl) (by simp) ?_
    refine AllReadyH.cons rfl (fun K hK => ?_) AllReadyH.nil
    go_simp
    refine (twoA_own w1.heap.size g7 27 cap7 _ (q.st) _ HO8.out HB8.out.size (by omega) (by omega) (by omega)).mono ?_
    rintro e' w9 ⟨g9, cap9, rfl, hO, hb⟩
    have HO9 := Lib.hid hO
    have HB9 := Lib.hid (HB8.out.trans hb)
    clear hO hb 
    clear hHeld
    refine hK.out _ _ HB9.out (fun hHeld => ?_)
    clear hK K
    try simp only [Act.put, List.getElem_toArray, List.getElem_cons_zero, List.getElem_cons_succ, List.setIfInBounds_toArray, List.set_cons_zero, List.set_cons_succ]
    refine wpAnyH_ready (rs := [5]) (by kernel_rfl) (by simp) ?_
    refine AllReadyH.cons rfl (fun K hK => ?_) AllReadyH.nil
    go_simp
    refine (twoA_own w1.heap.size g9 29 cap9 _ (2 + q.tid * 4 + q.size * 64) _ HO9.out HB9.out.size (by omega) (by omega) (by omega)).mono ?_
    rintro e' w10 ⟨g10, cap10, rfl, hO, hb⟩
    have HO10 := Lib.hid hO
    have HB10 := Lib.hid (HB9.out.trans hb)
    clear hO hb 
    clear hHeld
    refine hK.out _ _ HB10.out (fun hHeld => ?_)
    clear hK K
    try simp only [Act.put, List.getElem_toArray, List.getElem_cons_zero, List.getElem_cons_succ, List.setIfInBounds_toArray, List.set_cons_zero, List.set_cons_succ]
    refine wpAnyH_ready (rs := [8]) (by kernel_rfl) (by simp) ?_
    refine AllReadyH.cons rfl (fun K hK => ?_) AllReadyH.nil
    go_simp
    refine (twoA_own w1.heap.size g10 31 cap10 _ (q.tmo) _ HO10.out HB10.out.size (by omega) (by omega) (by omega)).mono ?_
    rintro e' w11 ⟨g11, cap11, rfl, hO, hb⟩
    have HO11 := Lib.hid hO
    have HB11 := Lib.hid (HB10.out.trans hb)
    clear hO hb 
    clear hHeld
    refine hK.out _ _ HB11.out (fun hHeld => ?_)
    clear hK K
    try simp only [Act.put, List.getElem_toArray, List.getElem_cons_zero, List.getElem_cons_succ, List.setIfInBounds_toArray, List.set_cons_zero, List.set_cons_succ]
    refine wpAnyH_take (i := 9) (v := ?_) rfl (by kernel_rfl) (by kernel_rfl) (by kernel_rfl) (fun _ _ _ h => h) (Or.inl ⟨by rfl, ?_⟩) (by assumption) ?_
    rotate_left
    · intro w hSw
      clear hSw
      go_simp
      try with_reducible rfl
    try simp only [Act.put, List.getElem_toArray, List.getElem_cons_zero, List.getElem_cons_succ, List.setIfInBounds_toArray, List.set_cons_zero, List.set_cons_succ]
    refine wpAnyH_take (i := 10) (v := ?_) rfl (by kernel_rfl) (by kernel_rfl) (by kernel_rfl) (fun _ _ _ h => h) (Or.inl ⟨by rfl, ?_⟩) (by assumption) ?_
    rotate_left
    · intro w hSw
      clear hSw
      go_simp
      try with_reducible rfl
    try simp only [Act.put, List.getElem_toArray, List.getElem_cons_zero, List.getElem_cons_succ, List.setIfInBounds_toArray, List.set_cons_zero, List.set_cons_succ]
    refine wpAnyH_done (by kernel_rfl) ?_ _
    clear hHeld
    go_wp2
    go_ret2
    refine ⟨g11, cap11, rfl, ?_, HB.out.trans (HB11.out.mono HB.out.size)⟩
    have h2 := HO11.out
    rw [HE.out] at h2
    exact h2.base HB.out.size
  · have HZ4 := Lib.hid (heap_alloc_last w3 (.cells #[.int .u8 q.tok] 5))
    have HB4 := Lib.hid (HB3.out.alloc HB3.out.size (.cells #[.int .u8 q.tok] 5))
    have HE4 := Lib.hid (show w3.heap.size < (w3.alloc (.cells #[.int .u8 q.tok] 5)).heap.size by simp)
    clear hHeld
    go_simp
    refine hK.out _ _ HB4.out (fun hHeld => ?_)
    clear hK K
    generalize World.alloc w3 _ = w4 at *
    generalize hh4 : w3.heap.size = h4 at *
    clear hh4
    try simp only [Act.put, List.getElem_toArray, List.getElem_cons_zero, List.getElem_cons_succ, List.setIfInBounds_toArray, List.set_cons_zero, List.set_cons_succ]
    refine wpAnyH_ready (rs := [6]) (by kernel_rfl) (by simp) ?_
    refine AllReadyH.cons rfl (fun K hK => ?_) AllReadyH.nil
    go_simp
    refine (head_own 1 33 q.t q.f q.b _ (by omega) (by omega) (by omega) (by omega)).mono ?_
    rintro e' w5 ⟨g, cap, rfl, hO, hb⟩
    have HO5 := Lib.hid (hO.base HB4.out.size)
    have HB5 := Lib.hid (HB4.out.trans (hb.mono HB4.out.size))
    have HZ5 := Lib.hid ((hb.block _ HE4.out).trans HZ4.out)
    clear hO hb
    clear hHeld
    refine hK.out _ _ HB5.out (fun hHeld => ?_)
    clear hK K
    try simp only [Act.put, List.getElem_toArray, List.getElem_cons_zero, List.getElem_cons_succ, List.setIfInBounds_toArray, List.set_cons_zero, List.set_cons_succ]
    refine wpAnyH_ready (rs := [11]) (by kernel_rfl) (by simp) ?_
    refine AllReadyH.cons rfl (fun K hK => ?_) AllReadyH.nil
    refine step_app_own rfl (.tmp 27) (.tmp 31) rfl w1.heap.size g 26 cap _ (by rfl) HO5.out ⟨h4, 0, none⟩ 1 1 [q.tok] (by rfl) rfl (by omega) (World.news_of_block (cs := #[.int .u8 q.tok]) (t := 5) (fr := (0, 0)) HZ5.out) (by omega) HB5.out.size ?_
    intro g7 cap7 w7 hO7 hb7
    have HB7 := Lib.hid (HB5.out.trans hb7.out)
    clear hHeld
    refine hK.out _ _ HB7.out (fun hHeld => ?_)
    clear hK K
    try simp only [Act.put, List.getElem_toArray, List.getElem_cons_zero, List.getElem_cons_succ, List.setIfInBounds_toArray, List.set_cons_zero, List.set_cons_succ]
    refine wpAnyH_take (i := 12) (v := ?_) rfl (by kernel_rfl) (by kernel_rfl) (by kernel_rfl) (fun _ _ _ h => h) (Or.inl ⟨by rfl, ?_⟩) (by assumption) ?_
    rotate_left
    · intro w hSw
      clear hSw
      go_simp
      try with_reducible rfl
    try simp only [Act.put, List.getElem_toArray, List.getElem_cons_zero, List.getElem_cons_succ, List.setIfInBounds_toArray, List.set_cons_zero, List.set_cons_succ]
    refine wpAnyH_done (by kernel_rfl) ?_ _
    clear hHeld hb7
    go_wp2
    have HB8 := Lib.hid HB7.out.drew
    have HO8 := Lib.hid (World.ownsRow.drew hO7.out)
    refine wp_region_held_drew (S := fun w' => Below w1.heap.size w1 w') (by kernel_rfl) HB8.out (fun hHeld => ?_)
    generalize World.drew w7 = w8 at *
    refine wpAnyH_take (i := 0) (v := ?_) rfl (by kernel_rfl) (by kernel_rfl) (by kernel_rfl) (fun _ _ _ h => h) (Or.inl ⟨by rfl, ?_⟩) (by assumption) ?_
    rotate_left
    · intro w hSw
      clear hSw
      go_simp
      try with_reducible rfl
    try simp only [Act.put, List.getElem_toArray, List.getElem_cons_zero, List.getElem_cons_succ, List.setIfInBounds_toArray, List.set_cons_zero, List.set_cons_succ]
    refine wpAnyH_take (i := 1) (v := ?_) rfl (by kernel_rfl) (by kernel_rfl) (by kernel_rfl) (fun _ _ _ h => h) (Or.inl ⟨by rfl, ?_⟩) (by assumption) ?_
    rotate_left
    · intro w hSw
      clear hSw
      go_simp
      try with_reducible rfl
    try simp only [Act.put, List.getElem_toArray, List.getElem_cons_zero, List.getElem_cons_succ, List.setIfInBounds_toArray, List.set_cons_zero, List.set_cons_succ]
    refine wpAnyH_take (i := 2) (v := ?_) rfl (by kernel_rfl) (by kernel_rfl) (by kernel_rfl) (fun _ _ _ h => h) (Or.inl ⟨by rfl, ?_⟩) (by assumption) ?_
    rotate_left
    · intro w hSw
      have c := HQ.out w 24 hSw
      dsimp only [Adf.cells] at c
      clear hSw
      go_simp
      try with_reducible rfl
    try simp only [Act.put, List.getElem_toArray, List.getElem_cons_zero, List.getElem_cons_succ, List.setIfInBounds_toArray, List.set_cons_zero, List.set_cons_succ]
    refine wpAnyH_take (i := 4) (v := ?_) rfl (by kernel_rfl) (by kernel_rfl) (by kernel_rfl) (fun _ _ _ h => h) (Or.inl ⟨by rfl, ?_⟩) (by assumption) ?_
    rotate_left
    · intro w hSw
      clear hSw
      go_simp
      try with_reducible rfl
    try simp only [Act.put, List.getElem_toArray, List.getElem_cons_zero, List.getElem_cons_succ, List.setIfInBounds_toArray, List.set_cons_zero, List.set_cons_succ]
    refine wpAnyH_take (i := 6) (v := ?_) rfl (by kernel_rfl) (by kernel_rfl) (by kernel_rfl) (fun _ _ _ h => h) (Or.inl ⟨by rfl, ?_⟩) (by assumption) ?_
    rotate_left
    · intro w hSw
      clear hSw
      go_simp
      try with_reducible rfl
    try simp only [Act.put, List.getElem_toArray, List.getElem_cons_zero, List.getElem_cons_succ, List.setIfInBounds_toArray, List.set_cons_zero, List.set_cons_succ]
    refine wpAnyH_take (i := 7) (v := ?_) rfl (by kernel_rfl) (by kernel_rfl) (by kernel_rfl) (fun _ _ _ h => h) (Or.inl ⟨by rfl, ?_⟩) (by assumption) ?_
    rotate_left
    · intro w hSw
      have c := HQ.out w 22 hSw
      dsimp only [Adf.cells] at c
      clear hSw
      go_simp
      try with_reducible rfl
    try simp only [Act.put, List.getElem_toArray, List.getElem_cons_zero, List.getElem_cons_succ, List.setIfInBounds_toArray, List.set_cons_zero, List.set_cons_succ]
    refine wpAnyH_ready (rs := [3]) (by kernel_rfl) (by simp) ?_
    refine AllReadyH.cons rfl (fun K hK => ?_) AllReadyH.nil
    go_simp
    refine (twoA_own w1.heap.size g7 27 cap7 _ (q.st) _ HO8.out HB8.out.size (by omega) (by omega) (by omega)).mono ?_
    rintro e' w9 ⟨g9, cap9, rfl, hO, hb⟩
    have HO9 := Lib.hid hO
    have HB9 := Lib.hid (HB8.out.trans hb)
    clear hO hb 
    clear hHeld
    refine hK.out _ _ HB9.out (fun hHeld => ?_)
    clear hK K
    try simp only [Act.put, List.getElem_toArray, List.getElem_cons_zero, List.getElem_cons_succ, List.setIfInBounds_toArray, List.set_cons_zero, List.set_cons_succ]
    refine wpAnyH_ready (rs := [5]) (by kernel_rfl) (by simp) ?_
    refine AllReadyH.cons rfl (fun K hK => ?_) AllReadyH.nil
    go_simp
    refine (twoA_own w1.heap.size g9 29 cap9 _ (2 + q.tid * 4 + q.size * 64) _ HO9.out HB9.out.size (by omega) (by omega) (by omega)).mono ?_
    rintro e' w10 ⟨g10, cap10, rfl, hO, hb⟩
    have HO10 := Lib.hid hO
    have HB10 := Lib.hid (HB9.out.trans hb)
    clear hO hb 
    clear hHeld
    refine hK.out _ _ HB10.out (fun hHeld => ?_)
    clear hK K
    try simp only [Act.put, List.getElem_toArray, List.getElem_cons_zero, List.getElem_cons_succ, List.setIfInBounds_toArray, List.set_cons_zero, List.set_cons_succ]
    refine wpAnyH_ready (rs := [8]) (by kernel_rfl) (by simp) ?_
    refine AllReadyH.cons rfl (fun K hK => ?_) AllReadyH.nil
    go_simp
    refine (twoA_own w1.heap.size g10 31 cap10 _ (q.tmo) _ HO10.out HB10.out.size (by omega) (by omega) (by omega)).mono ?_
    rintro e' w11 ⟨g11, cap11, rfl, hO, hb⟩
    have HO11 := Lib.hid hO
    have HB11 := Lib.hid (HB10.out.trans hb)
    clear hO hb 
    clear hHeld
    refine hK.out _ _ HB11.out (fun hHeld => ?_)
    clear hK K
    try simp only [Act.put, List.getElem_toArray, List.getElem_cons_zero, List.getElem_cons_succ, List.setIfInBounds_toArray, List.set_cons_zero, List.set_cons_succ]
    refine wpAnyH_take (i := 9) (v := ?_) rfl (by kernel_rfl) (by kernel_rfl) (by kernel_rfl) (fun _ _ _ h => h) (Or.inl ⟨by rfl, ?_⟩) (by assumption) ?_
    rotate_left
    · intro w hSw
      clear hSw
      go_simp
      try with_reducible rfl
    try simp only [Act.put, List.getElem_toArray, List.getElem_cons_zero, List.getElem_cons_succ, List.setIfInBounds_toArray, List.set_cons_zero, List.set_cons_succ]
    refine wpAnyH_take (i := 10) (v := ?_) rfl (by kernel_rfl) (by kernel_rfl) (by kernel_rfl) (fun _ _ _ h => h) (Or.inl ⟨by rfl, ?_⟩) (by assumption) ?_
    rotate_left
    · intro w hSw
      clear hSw
      go_simp
      try with_reducible rfl
    try simp only [Act.put, List.getElem_toArray, List.getElem_cons_zero, List.getElem_cons_succ, List.setIfInBounds_toArray, List.set_cons_zero, List.set_cons_succ]
    refine wpAnyH_done (by kernel_rfl) ?_ _
    clear hHeld
    go_wp2
    go_ret2
    refine ⟨g11, cap11, rfl, ?_, HB.out.trans (HB11.out.mono HB.out.size)⟩
    have h2 := HO11.out
    rw [HE.out] at h2
    exact h2.base HB.out.size

set_option maxRecDepth 100000 in
set_option maxHeartbeats 8000000 in
theorem add_ask (q : Adf) (w : World) (hok : okAdd q = true) (hm : q.ans = false) :
    Calls Tryd.prog 8 #[q.val] w fun e w' => ∃ g cap, e = .returned (.tuple #[.slice (some ⟨g, 0, none⟩) 33 cap, .nilIface]) ∧ OwnB w' w.heap.size 5 .u8 g 33 cap (encAdd q) ∧ Below w.heap.size w w' := by
  obtain ⟨⟨t0, t1⟩, ⟨i0, i1⟩, ⟨s0, s1⟩, ⟨m0, m1⟩, ⟨a0, a1⟩, ⟨n0, n1⟩, -⟩ := (okAdd_iff q).1 hok
  have x1 : IntKind.i64.wrap (q.tid * 4) = q.tid * 4 := IntWalk.i64_in _ ⟨by omega, by omega⟩
  have x2 : IntKind.i64.wrap (2 + q.tid * 4) = 2 + q.tid * 4 := IntWalk.i64_in _ ⟨by omega, by omega⟩
  have x3 : IntKind.i64.wrap (q.size * 64) = q.size * 64 := IntWalk.i64_in _ ⟨by omega, by omega⟩
  have x4 : IntKind.i64.wrap (2 + q.tid * 4 + q.size * 64) = 2 + q.tid * 4 + q.size * 64 := IntWalk.i64_in _ ⟨by omega, by omega⟩
  have x5 : IntKind.u8.wrap q.tok = q.tok := IntWalk.u8_in _ ⟨by omega, by omega⟩
  have x6 : IntKind.i64.wrap (q.seq * 16) = q.seq * 16 := IntWalk.i64_in _ ⟨by omega, by omega⟩
  have HPar := Lib.hid (show par q = 2 + q.tid * 4 + q.size * 64 from rfl)
  have HB := Lib.hid ((Below.refl w.heap.size w).alloc (Nat.le_refl _) (.cells q.cells 25))
  have HG := Lib.hid (heap_alloc_last w (.cells q.cells 25))
  have HZ := Lib.hid (show w.heap.size < (w.alloc (.cells q.cells 25)).heap.size by simp)
  have HC := Lib.hid (cells_new w q.cells 25)
  have HI := Lib.hid (mayBe_any q (w.alloc (.cells q.cells 25)))
  have HQB := Lib.hid (show ∀ w' : World, w'.cell? ⟨w.heap.size, 18, none⟩ = q.cells[18]? → w'.cell? ⟨w.heap.size, 18, none⟩ = some (.bool q.ans) from fun _ h => h)
  rw [hok] at HI
  clear hok
  have HE := Lib.hid (show encH 0 q.t q.f q.b ++ [q.tok] ++ [par q % 256, par q / 256] ++ [q.tmo % 256, q.tmo / 256] ++ [q.seq * 16 % 256, q.seq * 16 / 256] = encAdd q by unfold encAdd; rw [hm]; rfl)
  rw [HPar.out] at HE
  rw [hm] at HQB
  go_enter Tryd.func8, Tryd.ntmps8
  go_wp2_with (refine wpList_load_row rfl 25 (.tmp 1) rfl w.heap.size rfl 25 q.cells (0, 0) _ HG.out Tryd.underlying25 rfl sizeAdd ?_)
  refine HI.out.mono ?_
  rintro e w1 ⟨rfl, hB⟩
  have HB1 := Lib.hid (HB.out.trans (hB.mono HB.out.size))
  have HC1 := Lib.hid (fun i => (hB.cell (p := ⟨w.heap.size, i, none⟩) HZ.out).trans (HC.out i))
  have HZ1 := Lib.hid (Nat.lt_of_lt_of_le HZ.out hB.size)
  clear hB HG HI HB HC HZ
  have HB := HB1
  have HC := HC1
  have HZ := HZ1
  clear HB1 HC1 HZ1
  have HQ := Lib.hid (show ∀ (w' : World) (i : Nat), Below w1.heap.size w1 w' → w'.cell? ⟨w.heap.size, i, none⟩ = q.cells[i]? from
    fun w' i hb => (hb.cell HZ.out).trans (HC.out i))
  have HRG := Lib.hid (show ∀ (w' : World) (o : Nat) (x : A6), Below w1.heap.size w1 w' → (∀ j u, (x.l.map (Value.int .u8))[j]? = some u → q.cells[o + j]? = some u) → w'.rangeAt w.heap.size o x.cells.toList from
    fun w' o x hb hx j v hv => (HQ.out w' (o + j) hb).trans (hx j v (show (x.l.map (Value.int .u8))[j]? = some v from hv)))
  have c18 := HQB.out w1 (HC.out 18)
  have c20 := HC.out 20
  have c21 := HC.out 21
  dsimp only [Adf.cells] at c18 c20 c21
  go_wp2
  clear c18 c20 c21
  have HB3 := Lib.hid ((Below.refl w1.heap.size w1).drew)
  refine wp_region_held_drew (S := fun w' => Below w1.heap.size w1 w') (by kernel_rfl) HB3.out (fun hHeld => ?_)
  generalize World.drew w1 = w3 at *
  refine wpAnyH_take (i := 0) (v := ?_) rfl (by kernel_rfl) (by kernel_rfl) (by kernel_rfl) (fun _ _ _ h => h) (Or.inl ⟨by rfl, ?_⟩) (by assumption) ?_
  rotate_left
  · intro w hSw
    clear hSw
    go_simp
    try with_reducible rfl
  try simp only [Act.put, List.getElem_toArray, List.getElem_cons_zero, List.getElem_cons_succ, List.setIfInBounds_toArray, List.set_cons_zero, List.set_cons_succ]
  refine wpAnyH_take (i := 1) (v := .agg q.t.cells) rfl (by kernel_rfl) (by kernel_rfl) (by kernel_rfl) (fun _ _ _ h => h) (yieldsIf_load_mid (by rfl) 23 (.tmp 42) rfl w.heap.size 0 rfl q.t.cells.toList _ (fun w' hw' => HRG.out w' 0 q.t hw' (src6 (six_in rfl rfl rfl rfl rfl rfl))) Tryd.underlying23 rfl size6) (by assumption) ?_
  try simp only [Act.put, List.getElem_toArray, List.getElem_cons_zero, List.getElem_cons_succ, List.setIfInBounds_toArray, List.set_cons_zero, List.set_cons_succ]
  refine wpAnyH_take (i := 2) (v := ?_) rfl (by kernel_rfl) (by kernel_rfl) (by kernel_rfl) (fun _ _ _ h => h) (Or.inl ⟨by rfl, ?_⟩) (by assumption) ?_
  rotate_left
  · intro w hSw
    clear hSw
    go_simp
    try with_reducible rfl
  try simp only [Act.put, List.getElem_toArray, List.getElem_cons_zero, List.getElem_cons_succ, List.setIfInBounds_toArray, List.set_cons_zero, List.set_cons_succ]
  refine wpAnyH_take (i := 3) (v := .agg q.f.cells) rfl (by kernel_rfl) (by kernel_rfl) (by kernel_rfl) (fun _ _ _ h => h) (yieldsIf_load_mid (by rfl) 23 (.tmp 44) rfl w.heap.size 6 rfl q.f.cells.toList _ (fun w' hw' => HRG.out w' 6 q.f hw' (src6 (six_in rfl rfl rfl rfl rfl rfl))) Tryd.underlying23 rfl size6) (by assumption) ?_
  try simp only [Act.put, List.getElem_toArray, List.getElem_cons_zero, List.getElem_cons_succ, List.setIfInBounds_toArray, List.set_cons_zero, List.set_cons_succ]
  refine wpAnyH_take (i := 4) (v := ?_) rfl (by kernel_rfl) (by kernel_rfl) (by kernel_rfl) (fun _ _ _ h => h) (Or.inl ⟨by rfl, ?_⟩) (by assumption) ?_
  rotate_left
  · intro w hSw
    clear hSw
    go_simp
    try with_reducible rfl
  try simp only [Act.put, List.getElem_toArray, List.getElem_cons_zero, List.getElem_cons_succ, List.setIfInBounds_toArray, List.set_cons_zero, List.set_cons_succ]
  refine wpAnyH_take (i := 5) (v := .agg q.b.cells) rfl (by kernel_rfl) (by kernel_rfl) (by kernel_rfl) (fun _ _ _ h => h) (yieldsIf_load_mid (by rfl) 23 (.tmp 46) rfl w.heap.size 12 rfl q.b.cells.toList _ (fun w' hw' => HRG.out w' 12 q.b hw' (src6 (six_in rfl rfl rfl rfl rfl rfl))) Tryd.underlying23 rfl size6) (by assumption) ?_
  try simp only [Act.put, List.getElem_toArray, List.getElem_cons_zero, List.getElem_cons_succ, List.setIfInBounds_toArray, List.set_cons_zero, List.set_cons_succ]
  refine wpAnyH_take (i := 7) (v := ?_) rfl (by kernel_rfl) (by kernel_rfl) (by kernel_rfl) (fun _ _ _ h => h) (Or.inl ⟨by rfl, ?_⟩) (by assumption) ?_
  rotate_left
  · intro w hSw
    clear hSw
    go_simp
    try with_reducible rfl
  try simp only [Act.put, List.getElem_toArray, List.getElem_cons_zero, List.getElem_cons_succ, List.setIfInBounds_toArray, List.set_cons_zero, List.set_cons_succ]
  refine wpAnyH_take (i := 8) (v := ?_) rfl (by kernel_rfl) (by kernel_rfl) (by kernel_rfl) (fun _ _ _ h => h) (Or.inl ⟨by rfl, ?_⟩) (by assumption) ?_
  rotate_left
  · intro w hSw
    have c := HQ.out w 19 hSw
    dsimp only [Adf.cells] at c
    clear hSw
    go_simp
    try with_reducible rfl
  try simp only [Act.put, List.getElem_toArray, List.getElem_cons_zero, List.getElem_cons_succ, List.setIfInBounds_toArray, List.set_cons_zero, List.set_cons_succ]
  refine wpAnyH_take (i := 9) (v := ?_) rfl (by kernel_rfl) (by kernel_rfl) (by kernel_rfl) (fun _ _ _ h => h) (Or.inl ⟨by rfl, ?_⟩) (by assumption) ?_
  rotate_left
  · intro w hSw
    clear hSw
    go_simp
    try with_reducible rfl
  try simp only [Act.put, List.getElem_toArray, List.getElem_cons_zero, List.getElem_cons_succ, List.setIfInBounds_toArray, List.set_cons_zero, List.set_cons_succ]
  refine wpAnyH_ready (rs := [6, 10]) (by kernel_rfl) (by simp) ?_
  refine AllReadyH.cons rfl (fun K hK => ?_) (AllReadyH.cons rfl (fun K hK => ?_) AllReadyH.nil)
  · go_simp
    refine (head_own 0 33 q.t q.f q.b _ (by omega) (by omega) (by omega) (by omega)).mono ?_
    rintro e' w4 ⟨g, cap, rfl, hO, hb⟩
    have HO4 := Lib.hid (hO.base HB3.out.size)
    have HB4 := Lib.hid (HB3.out.trans (hb.mono HB3.out.size))
    clear hO hb
    clear hHeld
    refine hK.out _ _ HB4.out (fun hHeld => ?_)
    clear hK K
    try simp only [Act.put, List.getElem_toArray, List.getElem_cons_zero, List.getElem_cons_succ, List.setIfInBounds_toArray, List.set_cons_zero, List.set_cons_succ]
    refine wpAnyH_ready (rs := [10]) (by kernel_rfl) (by simp) ?_
    refine AllReadyH.cons rfl (fun K hK => ?_) AllReadyH.nil
    have HZ5 := Lib.hid (heap_alloc_last w4 (.cells #[.int .u8 q.tok] 5))
    have HB5 := Lib.hid (HB4.out.alloc HB4.out.size (.cells #[.int .u8 q.tok] 5))
    have HE5 := Lib.hid (show w4.heap.size < (w4.alloc (.cells #[.int .u8 q.tok] 5)).heap.size by simp)
    have HO5 := Lib.hid (World.ownsRow.alloc HO4.out (.cells #[.int .u8 q.tok] 5))
    clear hHeld
    go_simp
    refine hK.out _ _ HB5.out (fun hHeld => ?_)
    clear hK K
    generalize World.alloc w4 _ = w5 at *
    generalize hh5 : w4.heap.size = h5 at *
    clear hh5
    try simp only [Act.put, List.getElem_toArray, List.getElem_cons_zero, List.getElem_cons_succ, List.setIfInBounds_toArray, List.set_cons_zero, List.set_cons_succ]
    refine wpAnyH_ready (rs := [11]) (by kernel_rfl) (by simp) ?_
    refine AllReadyH.cons rfl (fun K hK => ?_) AllReadyH.nil
    refine step_app_own rfl (.tmp 48) (.tmp 52) rfl w1.heap.size g 26 cap _ (by rfl) HO5.out ⟨h5, 0, none⟩ 1 1 [q.tok] (by rfl) rfl (by omega) (World.news_of_block (cs := #[.int .u8 q.tok]) (t := 5) (fr := (0, 0)) HZ5.out) (by omega) HB5.out.size ?_
    intro g7 cap7 w7 hO7 hb7
    have HB7 := Lib.hid (HB5.out.trans hb7.out)
    clear hHeld
    refine hK.out _ _ HB7.out (fun hHeld => ?_)
    clear hK K
    try simp only [Act.put, List.getElem_toArray, List.getElem_cons_zero, List.getElem_cons_succ, List.setIfInBounds_toArray, List.set_cons_zero, List.set_cons_succ]
    refine wpAnyH_take (i := 12) (v := ?_) rfl (by kernel_rfl) (by kernel_rfl) (by kernel_rfl) (fun _ _ _ h => h) (Or.inl ⟨by rfl, ?_⟩) (by assumption) ?_
    rotate_left
    · intro w hSw
      clear hSw
      go_simp
      try with_reducible rfl
    try simp only [Act.put, List.getElem_toArray, List.getElem_cons_zero, List.getElem_cons_succ, List.setIfInBounds_toArray, List.set_cons_zero, List.set_cons_succ]
    refine wpAnyH_done (by kernel_rfl) ?_ _
    clear hHeld hb7
    go_wp2
    have HB8 := Lib.hid HB7.out.drew
    have HO8 := Lib.hid (World.ownsRow.drew hO7.out)
    refine wp_region_held_drew (S := fun w' => Below w1.heap.size w1 w') (by kernel_rfl) HB8.out (fun hHeld => ?_)
    generalize World.drew w7 = w8 at *
    refine wpAnyH_take (i := 0) (v := ?_) rfl (by kernel_rfl) (by kernel_rfl) (by kernel_rfl) (fun _ _ _ h => h) (Or.inl ⟨by rfl, ?_⟩) (by assumption) ?_
    rotate_left
    · intro w hSw
      clear hSw
      go_simp
      try with_reducible rfl
    try simp only [Act.put, List.getElem_toArray, List.getElem_cons_zero, List.getElem_cons_succ, List.setIfInBounds_toArray, List.set_cons_zero, List.set_cons_succ]
    refine wpAnyH_take (i := 1) (v := ?_) rfl (by kernel_rfl) (by kernel_rfl) (by kernel_rfl) (fun _ _ _ h => h) (Or.inl ⟨by rfl, ?_⟩) (by assumption) ?_
    rotate_left
    · intro w hSw
      clear hSw
      go_simp
      try with_reducible rfl
    try simp only [Act.put, List.getElem_toArray, List.getElem_cons_zero, List.getElem_cons_succ, List.setIfInBounds_toArray, List.set_cons_zero, List.set_cons_succ]
    refine wpAnyH_take (i := 3) (v := ?_) rfl (by kernel_rfl) (by kernel_rfl) (by kernel_rfl) (fun _ _ _ h => h) (Or.inl ⟨by rfl, ?_⟩) (by assumption) ?_
    rotate_left
    · intro w hSw
      clear hSw
      go_simp
      try with_reducible rfl
    try simp only [Act.put, List.getElem_toArray, List.getElem_cons_zero, List.getElem_cons_succ, List.setIfInBounds_toArray, List.set_cons_zero, List.set_cons_succ]
    refine wpAnyH_take (i := 4) (v := ?_) rfl (by kernel_rfl) (by kernel_rfl) (by kernel_rfl) (fun _ _ _ h => h) (Or.inl ⟨by rfl, ?_⟩) (by assumption) ?_
    rotate_left
    · intro w hSw
      have c := HQ.out w 22 hSw
      dsimp only [Adf.cells] at c
      clear hSw
      go_simp
      try with_reducible rfl
    try simp only [Act.put, List.getElem_toArray, List.getElem_cons_zero, List.getElem_cons_succ, List.setIfInBounds_toArray, List.set_cons_zero, List.set_cons_succ]
    refine wpAnyH_take (i := 6) (v := ?_) rfl (by kernel_rfl) (by kernel_rfl) (by kernel_rfl) (fun _ _ _ h => h) (Or.inl ⟨by rfl, ?_⟩) (by assumption) ?_
    rotate_left
    · intro w hSw
      clear hSw
      go_simp
      try with_reducible rfl
    try simp only [Act.put, List.getElem_toArray, List.getElem_cons_zero, List.getElem_cons_succ, List.setIfInBounds_toArray, List.set_cons_zero, List.set_cons_succ]
    refine wpAnyH_take (i := 7) (v := ?_) rfl (by kernel_rfl) (by kernel_rfl) (by kernel_rfl) (fun _ _ _ h => h) (Or.inl ⟨by rfl, ?_⟩) (by assumption) ?_
    rotate_left
    · intro w hSw
      have c := HQ.out w 23 hSw
      dsimp only [Adf.cells] at c
      clear hSw
      go_simp
      try with_reducible rfl
    try simp only [Act.put, List.getElem_toArray, List.getElem_cons_zero, List.getElem_cons_succ, List.setIfInBounds_toArray, List.set_cons_zero, List.set_cons_succ]
    refine wpAnyH_take (i := 8) (v := ?_) rfl (by kernel_rfl) (by kernel_rfl) (by kernel_rfl) (fun _ _ _ h => h) (Or.inl ⟨by rfl, ?_⟩) (by assumption) ?_
    rotate_left
    · intro w hSw
      clear hSw
      go_simp
      try with_reducible rfl
    try simp only [Act.put, List.getElem_toArray, List.getElem_cons_zero, List.getElem_cons_succ, List.setIfInBounds_toArray, List.set_cons_zero, List.set_cons_succ]
    refine wpAnyH_ready (rs := [2]) (by kernel_rfl) (by simp) ?_
    refine AllReadyH.cons rfl (fun K hK => ?_) AllReadyH.nil
    go_simp
    refine (twoA_own w1.heap.size g7 27 cap7 _ (2 + q.tid * 4 + q.size * 64) _ HO8.out HB8.out.size (by omega) (by omega) (by omega)).mono ?_
    rintro e' w9 ⟨g9, cap9, rfl, hO, hb⟩
    have HO9 := Lib.hid hO
    have HB9 := Lib.hid (HB8.out.trans hb)
    clear hO hb 
    clear hHeld
    refine hK.out _ _ HB9.out (fun hHeld => ?_)
    clear hK K
    try simp only [Act.put, List.getElem_toArray, List.getElem_cons_zero, List.getElem_cons_succ, List.setIfInBounds_toArray, List.set_cons_zero, List.set_cons_succ]
    refine wpAnyH_ready (rs := [5]) (by kernel_rfl) (by simp) ?_
    refine AllReadyH.cons rfl (fun K hK => ?_) AllReadyH.nil
    go_simp
    refine (twoA_own w1.heap.size g9 29 cap9 _ (q.tmo) _ HO9.out HB9.out.size (by omega) (by omega) (by omega)).mono ?_
    rintro e' w10 ⟨g10, cap10, rfl, hO, hb⟩
    have HO10 := Lib.hid hO
    have HB10 := Lib.hid (HB9.out.trans hb)
    clear hO hb 
    clear hHeld
    refine hK.out _ _ HB10.out (fun hHeld => ?_)
    clear hK K
    try simp only [Act.put, List.getElem_toArray, List.getElem_cons_zero, List.getElem_cons_succ, List.setIfInBounds_toArray, List.set_cons_zero, List.set_cons_succ]
    refine wpAnyH_ready (rs := [9]) (by kernel_rfl) (by simp) ?_
    refine AllReadyH.cons rfl (fun K hK => ?_) AllReadyH.nil
    go_simp
    refine (twoA_own w1.heap.size g10 31 cap10 _ (q.seq * 16) _ HO10.out HB10.out.size (by omega) (by omega) (by omega)).mono ?_
    rintro e' w11 ⟨g11, cap11, rfl, hO, hb⟩
    have HO11 := Lib.hid hO
    have HB11 := Lib.hid (HB10.out.trans hb)
    clear hO hb 
    clear hHeld
    refine hK.out _ _ HB11.out (fun hHeld => ?_)
    clear hK K
    try simp only [Act.put, List.getElem_toArray, List.getElem_cons_zero, List.getElem_cons_succ, List.setIfInBounds_toArray, List.set_cons_zero, List.set_cons_succ]
    refine wpAnyH_take (i := 10) (v := ?_) rfl (by kernel_rfl) (by kernel_rfl) (by kernel_rfl) (fun _ _ _ h => h) (Or.inl ⟨by rfl, ?_⟩) (by assumption) ?_
    rotate_left
    · intro w hSw
      clear hSw
      go_simp
      try with_reducible rfl
    try simp only [Act.put, List.getElem_toArray, List.getElem_cons_zero, List.getElem_cons_succ, List.setIfInBounds_toArray, List.set_cons_zero, List.set_cons_succ]
    refine wpAnyH_take (i := 11) (v := ?_) rfl (by kernel_rfl) (by kernel_rfl) (by kernel_rfl) (fun _ _ _ h => h) (Or.inl ⟨by rfl, ?_⟩) (by assumption) ?_
    rotate_left
    · intro w hSw
      clear hSw
      go_simp
      try with_reducible rfl
    try simp only [Act.put, List.getElem_toArray, List.getElem_cons_zero, List.getElem_cons_succ, List.setIfInBounds_toArray, List.set_cons_zero, List.set_cons_succ]
    refine wpAnyH_done (by kernel_rfl) ?_ _
    clear hHeld
    go_wp2
    go_ret2
    refine ⟨g11, cap11, rfl, ?_, HB.out.trans (HB11.out.mono HB.out.size)⟩
    have h2 := HO11.out
    rw [HE.out] at h2
    exact h2.base HB.out.size
  · have HZ4 := Lib.hid (heap_alloc_last w3 (.cells #[.int .u8 q.tok] 5))
    have HB4 := Lib.hid (HB3.out.alloc HB3.out.size (.cells #[.int .u8 q.tok] 5))
    have HE4 := Lib.hid (show w3.heap.size < (w3.alloc (.cells #[.int .u8 q.tok] 5)).heap.size by simp)
    clear hHeld
    go_simp
    refine hK.out _ _ HB4.out (fun hHeld => ?_)
    clear hK K
    generalize World.alloc w3 _ = w4 at *
    generalize hh4 : w3.heap.size = h4 at *
    clear hh4
    try simp only [Act.put, List.getElem_toArray, List.getElem_cons_zero, List.getElem_cons_succ, List.setIfInBounds_toArray, List.set_cons_zero, List.set_cons_succ]
    refine wpAnyH_ready (rs := [6]) (by kernel_rfl) (by simp) ?_
    refine AllReadyH.cons rfl (fun K hK => ?_) AllReadyH.nil
    go_simp
    refine (head_own 0 33 q.t q.f q.b _ (by omega) (by omega) (by omega) (by omega)).mono ?_
    rintro e' w5 ⟨g, cap, rfl, hO, hb⟩
    have HO5 := Lib.hid (hO.base HB4.out.size)
    have HB5 := Lib.hid (HB4.out.trans (hb.mono HB4.out.size))
    have HZ5 := Lib.hid ((hb.block _ HE4.out).trans HZ4.out)
    clear hO hb
    clear hHeld
    refine hK.out _ _ HB5.out (fun hHeld => ?_)
    clear hK K
    try simp only [Act.put, List.getElem_toArray, List.getElem_cons_zero, List.getElem_cons_succ, List.setIfInBounds_toArray, List.set_cons_zero, List.set_cons_succ]
    refine wpAnyH_ready (rs := [11]) (by kernel_rfl) (by simp) ?_
    refine AllReadyH.cons rfl (fun K hK => ?_) AllReadyH.nil
    refine step_app_own rfl (.tmp 48) (.tmp 52) rfl w1.heap.size g 26 cap _ (by rfl) HO5.out ⟨h4, 0, none⟩ 1 1 [q.tok] (by rfl) rfl (by omega) (World.news_of_block (cs := #[.int .u8 q.tok]) (t := 5) (fr := (0, 0)) HZ5.out) (by omega) HB5.out.size ?_
    intro g7 cap7 w7 hO7 hb7
    have HB7 := Lib.hid (HB5.out.trans hb7.out)
    clear hHeld
    refine hK.out _ _ HB7.out (fun hHeld => ?_)
    clear hK K
    try simp only [Act.put, List.getElem_toArray, List.getElem_cons_zero, List.getElem_cons_succ, List.setIfInBounds_toArray, List.set_cons_zero, List.set_cons_succ]
    refine wpAnyH_take (i := 12) (v := ?_) rfl (by kernel_rfl) (by kernel_rfl) (by kernel_rfl) (fun _ _ _ h => h) (Or.inl ⟨by rfl, ?_⟩) (by assumption) ?_
    rotate_left
    · intro w hSw
      clear hSw
      go_simp
      try with_reducible rfl
    try simp only [Act.put, List.getElem_toArray, List.getElem_cons_zero, List.getElem_cons_succ, List.setIfInBounds_toArray, List.set_cons_zero, List.set_cons_succ]
    refine wpAnyH_done (by kernel_rfl) ?_ _
    clear hHeld hb7
    go_wp2
    have HB8 := Lib.hid HB7.out.drew
    have HO8 := Lib.hid (World.ownsRow.drew hO7.out)
    refine wp_region_held_drew (S := fun w' => Below w1.heap.size w1 w') (by kernel_rfl) HB8.out (fun hHeld => ?_)
    generalize World.drew w7 = w8 at *
    refine wpAnyH_take (i := 0) (v := ?_) rfl (by kernel_rfl) (by kernel_rfl) (by kernel_rfl) (fun _ _ _ h => h) (Or.inl ⟨by rfl, ?_⟩) (by assumption) ?_
    rotate_left
    · intro w hSw
      clear hSw
      go_simp
      try with_reducible rfl
    try simp only [Act.put, List.getElem_toArray, List.getElem_cons_zero, List.getElem_cons_succ, List.setIfInBounds_toArray, List.set_cons_zero, List.set_cons_succ]
    refine wpAnyH_take (i := 1) (v := ?_) rfl (by kernel_rfl) (by kernel_rfl) (by kernel_rfl) (fun _ _ _ h => h) (Or.inl ⟨by rfl, ?_⟩) (by assumption) ?_
    rotate_left
    · intro w hSw
      clear hSw
      go_simp
      try with_reducible rfl
    try simp only [Act.put, List.getElem_toArray, List.getElem_cons_zero, List.getElem_cons_succ, List.setIfInBounds_toArray, List.set_cons_zero, List.set_cons_succ]
    refine wpAnyH_take (i := 3) (v := ?_) rfl (by kernel_rfl) (by kernel_rfl) (by kernel_rfl) (fun _ _ _ h => h) (Or.inl ⟨by rfl, ?_⟩) (by assumption) ?_
    rotate_left
    · intro w hSw
      clear hSw
      go_simp
      try with_reducible rfl
    try simp only [Act.put, List.getElem_toArray, List.getElem_cons_zero, List.getElem_cons_succ, List.setIfInBounds_toArray, List.set_cons_zero, List.set_cons_succ]
    refine wpAnyH_take (i := 4) (v := ?_) rfl (by kernel_rfl) (by kernel_rfl) (by kernel_rfl) (fun _ _ _ h => h) (Or.inl ⟨by rfl, ?_⟩) (by assumption) ?_
    rotate_left
    · intro w hSw
      have c := HQ.out w 22 hSw
      dsimp only [Adf.cells] at c
      clear hSw
      go_simp
      try with_reducible rfl
    try simp only [Act.put, List.getElem_toArray, List.getElem_cons_zero, List.getElem_cons_succ, List.setIfInBounds_toArray, List.set_cons_zero, List.set_cons_succ]
    refine wpAnyH_take (i := 6) (v := ?_) rfl (by kernel_rfl) (by kernel_rfl) (by kernel_rfl) (fun _ _ _ h => h) (Or.inl ⟨by rfl, ?_⟩) (by assumption) ?_
    rotate_left
    · intro w hSw
      clear hSw
      go_simp
      try with_reducible rfl
    try simp only [Act.put, List.getElem_toArray, List.getElem_cons_zero, List.getElem_cons_succ, List.setIfInBounds_toArray, List.set_cons_zero, List.set_cons_succ]
    refine wpAnyH_take (i := 7) (v := ?_) rfl (by kernel_rfl) (by kernel_rfl) (by kernel_rfl) (fun _ _ _ h => h) (Or.inl ⟨by rfl, ?_⟩) (by assumption) ?_
    rotate_left
    · intro w hSw
      have c := HQ.out w 23 hSw
      dsimp only [Adf.cells] at c
      clear hSw
      go_simp
      try with_reducible rfl
    try simp only [Act.put, List.getElem_toArray, List.getElem_cons_zero, List.getElem_cons_succ, List.setIfInBounds_toArray, List.set_cons_zero, List.set_cons_succ]
    refine wpAnyH_take (i := 8) (v := ?_) rfl (by kernel_rfl) (by kernel_rfl) (by kernel_rfl) (fun _ _ _ h => h) (Or.inl ⟨by rfl, ?_⟩) (by assumption) ?_
    rotate_left
    · intro w hSw
      clear hSw
      go_simp
      try with_reducible rfl
    try simp only [Act.put, List.getElem_toArray, List.getElem_cons_zero, List.getElem_cons_succ, List.setIfInBounds_toArray, List.set_cons_zero, List.set_cons_succ]
    refine wpAnyH_ready (rs := [2]) (by kernel_rfl) (by simp) ?_
    refine AllReadyH.cons rfl (fun K hK => ?_) AllReadyH.nil
    go_simp
    refine (twoA_own w1.heap.size g7 27 cap7 _ (2 + q.tid * 4 + q.size * 64) _ HO8.out HB8.out.size (by omega) (by omega) (by omega)).mono ?_
    rintro e' w9 ⟨g9, cap9, rfl, hO, hb⟩
    have HO9 := Lib.hid hO
    have HB9 := Lib.hid (HB8.out.trans hb)
    clear hO hb 
    clear hHeld
    refine hK.out _ _ HB9.out (fun hHeld => ?_)
    clear hK K
    try simp only [Act.put, List.getElem_toArray, List.getElem_cons_zero, List.getElem_cons_succ, List.setIfInBounds_toArray, List.set_cons_zero, List.set_cons_succ]
    refine wpAnyH_ready (rs := [5]) (by kernel_rfl) (by simp) ?_
    refine AllReadyH.cons rfl (fun K hK => ?_) AllReadyH.nil
    go_simp
    refine (twoA_own w1.heap.size g9 29 cap9 _ (q.tmo) _ HO9.out HB9.out.size (by omega) (by omega) (by omega)).mono ?_
    rintro e' w10 ⟨g10, cap10, rfl, hO, hb⟩
    have HO10 := Lib.hid hO
    have HB10 := Lib.hid (HB9.out.trans hb)
    clear hO hb 
    clear hHeld
    refine hK.out _ _ HB10.out (fun hHeld => ?_)
    clear hK K
    try simp only [Act.put, List.getElem_toArray, List.getElem_cons_zero, List.getElem_cons_succ, List.setIfInBounds_toArray, List.set_cons_zero, List.set_cons_succ]
    refine wpAnyH_ready (rs := [9]) (by kernel_rfl) (by simp) ?_
    refine AllReadyH.cons rfl (fun K hK => ?_) AllReadyH.nil
    go_simp
    refine (twoA_own w1.heap.size g10 31 cap10 _ (q.seq * 16) _ HO10.out HB10.out.size (by omega) (by omega) (by omega)).mono ?_
    rintro e' w11 ⟨g11, cap11, rfl, hO, hb⟩
    have HO11 := Lib.hid hO
    have HB11 := Lib.hid (HB10.out.trans hb)
    clear hO hb 
    clear hHeld
    refine hK.out _ _ HB11.out (fun hHeld => ?_)
    clear hK K
    try simp only [Act.put, List.getElem_toArray, List.getElem_cons_zero, List.getElem_cons_succ, List.setIfInBounds_toArray, List.set_cons_zero, List.set_cons_succ]
    refine wpAnyH_take (i := 10) (v := ?_) rfl (by kernel_rfl) (by kernel_rfl) (by kernel_rfl) (fun _ _ _ h => h) (Or.inl ⟨by rfl, ?_⟩) (by assumption) ?_
    rotate_left
    · intro w hSw
      clear hSw
      go_simp
      try with_reducible rfl
    try simp only [Act.put, List.getElem_toArray, List.getElem_cons_zero, List.getElem_cons_succ, List.setIfInBounds_toArray, List.set_cons_zero, List.set_cons_succ]
    refine wpAnyH_take (i := 11) (v := ?_) rfl (by kernel_rfl) (by kernel_rfl) (by kernel_rfl) (fun _ _ _ h => h) (Or.inl ⟨by rfl, ?_⟩) (by assumption) ?_
    rotate_left
    · intro w hSw
      clear hSw
      go_simp
      try with_reducible rfl
    try simp only [Act.put, List.getElem_toArray, List.getElem_cons_zero, List.getElem_cons_succ, List.setIfInBounds_toArray, List.set_cons_zero, List.set_cons_succ]
    refine wpAnyH_done (by kernel_rfl) ?_ _
    clear hHeld
    go_wp2
    go_ret2
    refine ⟨g11, cap11, rfl, ?_, HB.out.trans (HB11.out.mono HB.out.size)⟩
    have h2 := HO11.out
    rw [HE.out] at h2
    exact h2.base HB.out.size
end Go.Proofs.YtjgingfcfmpfaaaDoor
