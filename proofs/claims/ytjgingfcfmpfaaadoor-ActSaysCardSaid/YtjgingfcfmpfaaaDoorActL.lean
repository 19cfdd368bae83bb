/-
  CONTRACT of the reference's AddBytes: an Add that asks; both.
-/
import Derived.Test.YtjgingfcfmpfaaaDoorActLa
import Derived.Test.YtjgingfcfmpfaaaDoorActLb
namespace Go.Proofs.YtjgingfcfmpfaaaDoor
open Go.ChangeShapes Go.WideShapes Go.ChangeAt Go.RowKit
set_option linter.unusedVariables false
set_option linter.unusedSimpArgs false

set_option maxRecDepth 100000 in
set_option maxHeartbeats 8000000 in
theorem refAdd_ask (q : Adf) (w : World) (hok : okAdd q = true) (hm : q.ans = false) :
    Calls Tryd.prog 10 #[q.val] w fun e w' => ∃ g cap, e = .returned (.tuple #[.slice (some ⟨g, 0, none⟩) 33 cap, .int .i64 0]) ∧ OwnB w' w.heap.size 5 .u8 g 33 cap (encAdd q) ∧ Below w.heap.size w w' := by
  obtain ⟨⟨t0, t1⟩, ⟨i0, i1⟩, ⟨s0, s1⟩, ⟨m0, m1⟩, ⟨a0, a1⟩, ⟨n0, n1⟩, hl⟩ := (okAdd_iff q).1 hok
  rw [hm] at hl
  have hl2 : q.st = 0 := by simpa using hl
  have G0 := Lib.hid (upT_is ((upT_iff 255 q.tok).2 ⟨by omega, by omega⟩))
  have G1 := Lib.hid (upT_is ((upT_iff 7 q.tid).2 ⟨by omega, by omega⟩))
  have G2 := Lib.hid (upT_is ((upT_iff 1023 q.size).2 ⟨by omega, by omega⟩))
  have G3 := Lib.hid (upT_is ((upT_iff 65535 q.tmo).2 ⟨by omega, by omega⟩))
  have G4 := Lib.hid (upT_is ((upT_iff 65535 q.st).2 ⟨by omega, by omega⟩))
  have G5 := Lib.hid (upT_is ((upT_iff 4095 q.seq).2 ⟨by omega, by omega⟩))
  have x1 : IntKind.i64.wrap (q.tid * 4) = q.tid * 4 := IntWalk.i64_in _ ⟨by omega, by omega⟩
  have x2 : IntKind.i64.wrap (2 + q.tid * 4) = 2 + q.tid * 4 := IntWalk.i64_in _ ⟨by omega, by omega⟩
  have x3 : IntKind.i64.wrap (q.size * 64) = q.size * 64 := IntWalk.i64_in _ ⟨by omega, by omega⟩
  have x4 : IntKind.i64.wrap (2 + q.tid * 4 + q.size * 64) = 2 + q.tid * 4 + q.size * 64 := IntWalk.i64_in _ ⟨by omega, by omega⟩
  have x5 : IntKind.u8.wrap q.tok = q.tok := IntWalk.u8_in _ ⟨by omega, by omega⟩
  have x6 : IntKind.i64.wrap (q.seq * 16) = q.seq * 16 := IntWalk.i64_in _ ⟨by omega, by omega⟩
  have HPar := Lib.hid (show par q = 2 + q.tid * 4 + q.size * 64 from rfl)
  have HL := Lib.hid (show encR q.t q.f q.b ++ [0, q.tok] ++ [par q % 256, par q / 256] ++ [q.tmo % 256, q.tmo / 256] ++ [q.seq * 16 % 256, q.seq * 16 / 256] = encAdd q by unfold encAdd; rw [encR_app, hm]; rfl)
  rw [HPar.out] at HL
  have g0 : (q.st != 0) = false := by rw [hl2]; rfl
  clear hl2
  have HB := Lib.hid ((Below.refl w.heap.size w).alloc (Nat.le_refl _) (.cells q.cells 25))
  have HZ := Lib.hid (show w.heap.size < (w.alloc (.cells q.cells 25)).heap.size by simp)
  have hC := cells_new w q.cells 25
  have c19 := hC 19
  have c20 := hC 20
  have c21 := hC 21
  have c22 := hC 22
  have c23 := hC 23
  have c24 := hC 24
  have HC := Lib.hid hC
  dsimp only [Adf.cells] at c19 c20 c21 c22 c23 c24
  clear hC
  have HQB := Lib.hid (show ∀ w' : World, w'.cell? ⟨w.heap.size, 18, none⟩ = q.cells[18]? → w'.cell? ⟨w.heap.size, 18, none⟩ = some (.bool q.ans) from fun _ h => h)
  rw [hm] at HQB
  have c18 := HQB.out _ (HC.out 18)
  clear hok hl
  go_enter Tryd.func10, Tryd.ntmps10
  go_wp2_with (fail)
  refine (out_is G0.out _).mono ?_
  rintro e w2 ⟨rfl, rfl⟩
  go_wp2_with (fail)
  refine (out_is G1.out _).mono ?_
  rintro e w2 ⟨rfl, rfl⟩
  go_wp2_with (fail)
  refine (out_is G2.out _).mono ?_
  rintro e w2 ⟨rfl, rfl⟩
  go_wp2_with (fail)
  refine (out_is G3.out _).mono ?_
  rintro e w2 ⟨rfl, rfl⟩
  go_wp2_with (fail)
  refine (out_is G4.out _).mono ?_
  rintro e w2 ⟨rfl, rfl⟩
  go_wp2_with (fail)
  refine (out_is G5.out _).mono ?_
  rintro e w2 ⟨rfl, rfl⟩
  have HQ := Lib.hid (show ∀ (w' : World) (i : Nat), Below (w.alloc (.cells q.cells 25)).heap.size (w.alloc (.cells q.cells 25)) w' → w'.cell? ⟨w.heap.size, i, none⟩ = q.cells[i]? from
    fun w' i hb => (hb.cell HZ.out).trans (HC.out i))
  have HRG := Lib.hid (show ∀ (w' : World) (o : Nat) (x : A6), Below (w.alloc (.cells q.cells 25)).heap.size (w.alloc (.cells q.cells 25)) w' → (∀ j u, (x.l.map (Value.int .u8))[j]? = some u → q.cells[o + j]? = some u) → w'.rangeAt w.heap.size o x.cells.toList from
    fun w' o x hb hx j v hv => (HQ.out w' (o + j) hb).trans (hx j v (show (x.l.map (Value.int .u8))[j]? = some v from hv)))
  generalize hw1 : w.alloc (.cells q.cells 25) = w1 at *
  clear hw1
  go_wp2_with (first | (refine wpList_load_mid rfl 23 (.tmp 52) rfl w.heap.size 0 rfl q.t.cells.toList _ (HRG.out w1 0 q.t (Below.refl _ _) (src6 (six_in rfl rfl rfl rfl rfl rfl))) Tryd.underlying23 rfl size6 ?_) | (refine wpList_load_mid rfl 23 (.tmp 54) rfl w.heap.size 6 rfl q.f.cells.toList _ (HRG.out w1 6 q.f (Below.refl _ _) (src6 (six_in rfl rfl rfl rfl rfl rfl))) Tryd.underlying23 rfl size6 ?_) | (refine wpList_load_mid rfl 23 (.tmp 56) rfl w.heap.size 12 rfl q.b.cells.toList _ (HRG.out w1 12 q.b (Below.refl _ _) (src6 (six_in rfl rfl rfl rfl rfl rfl))) Tryd.underlying23 rfl size6 ?_))
  refine (refHead_own q.t q.f q.b w1).mono ?_
  rintro e' w3 ⟨g3, cap3, rfl, hO, hb⟩
  have HO3 := Lib.hid hO
  have HB3 := Lib.hid hb
  clear hO hb c18 c19 c20 c21 c22 c23 c24
  have c18 := HQB.out w3 (HQ.out w3 18 HB3.out)
  go_wp2
  clear c18
  have HB4 := Lib.hid HB3.out.drew
  have HO4 := Lib.hid (World.ownsRow.drew HO3.out)
  refine wp_region_held_drew (S := fun w' => Below w1.heap.size w1 w') (by kernel_rfl) HB4.out (fun hHeld => ?_)
  generalize World.drew w3 = w4 at *
  refine wpAnyH_take (i := 0) (v := ?_) rfl (by kernel_rfl) (by kernel_rfl) (by kernel_rfl) (fun _ _ _ h => h) (Or.inl ⟨by rfl, ?_⟩) (by assumption) ?_
  rotate_left
  · intro w hSw
    clear hSw
    go_simp
    try with_reducible rfl
  try simp only [Act.put, List.getElem_toArray, List.getElem_cons_zero, List.getElem_cons_succ, List.setIfInBounds_toArray, List.set_cons_zero, List.set_cons_succ]
  refine wpAnyH_take (i := 1) (v := ?_) rfl (by kernel_rfl) (by kernel_rfl) (by kernel_rfl) (fun _ _ _ h => h) (Or.inl ⟨by rfl, ?_⟩) (by assumption) ?_
  rotate_left
  · intro w hSw
    clear hSw
    go_simp
    try with_reducible rfl
  try simp only [Act.put, List.getElem_toArray, List.getElem_cons_zero, List.getElem_cons_succ, List.setIfInBounds_toArray, List.set_cons_zero, List.set_cons_succ]
  refine wpAnyH_take (i := 2) (v := ?_) rfl (by kernel_rfl) (by kernel_rfl) (by kernel_rfl) (fun _ _ _ h => h) (Or.inl ⟨by rfl, ?_⟩) (by assumption) ?_
  rotate_left
  · intro w hSw
    have c := HQ.out w 19 hSw
    dsimp only [Adf.cells] at c
    clear hSw
    go_simp
    try with_reducible rfl
  try simp only [Act.put, List.getElem_toArray, List.getElem_cons_zero, List.getElem_cons_succ, List.setIfInBounds_toArray, List.set_cons_zero, List.set_cons_succ]
  refine wpAnyH_take (i := 3) (v := ?_) rfl (by kernel_rfl) (by kernel_rfl) (by kernel_rfl) (fun _ _ _ h => h) (Or.inl ⟨by rfl, ?_⟩) (by assumption) ?_
  rotate_left
  · intro w hSw
    clear hSw
    go_simp
    try with_reducible rfl
  try simp only [Act.put, List.getElem_toArray, List.getElem_cons_zero, List.getElem_cons_succ, List.setIfInBounds_toArray, List.set_cons_zero, List.set_cons_succ]
  refine wpAnyH_take (i := 6) (v := ?_) rfl (by kernel_rfl) (by kernel_rfl) (by kernel_rfl) (fun _ _ _ h => h) (Or.inl ⟨by rfl, ?_⟩) (by assumption) ?_
  rotate_left
  · intro w hSw
    clear hSw
    go_simp
    try with_reducible rfl
  try simp only [Act.put, List.getElem_toArray, List.getElem_cons_zero, List.getElem_cons_succ, List.setIfInBounds_toArray, List.set_cons_zero, List.set_cons_succ]
  refine wpAnyH_take (i := 7) (v := ?_) rfl (by kernel_rfl) (by kernel_rfl) (by kernel_rfl) (fun _ _ _ h => h) (Or.inl ⟨by rfl, ?_⟩) (by assumption) ?_
  rotate_left
  · intro w hSw
    have c := HQ.out w 20 hSw
    dsimp only [Adf.cells] at c
    clear hSw
    go_simp
    try with_reducible rfl
  try simp only [Act.put, List.getElem_toArray, List.getElem_cons_zero, List.getElem_cons_succ, List.setIfInBounds_toArray, List.set_cons_zero, List.set_cons_succ]
  refine wpAnyH_take (i := 8) (v := ?_) rfl (by kernel_rfl) (by kernel_rfl) (by kernel_rfl) (fun _ _ _ h => h) (Or.inl ⟨by rfl, ?_⟩) (by assumption) ?_
  rotate_left
  · intro w hSw
    clear hSw
    go_simp
    try with_reducible rfl
  try simp only [Act.put, List.getElem_toArray, List.getElem_cons_zero, List.getElem_cons_succ, List.setIfInBounds_toArray, List.set_cons_zero, List.set_cons_succ]
  refine wpAnyH_take (i := 9) (v := ?_) rfl (by kernel_rfl) (by kernel_rfl) (by kernel_rfl) (fun _ _ _ h => h) (Or.inl ⟨by rfl, ?_⟩) (by assumption) ?_
  rotate_left
  · intro w hSw
    clear hSw
    go_simp
    try with_reducible rfl
  try simp only [Act.put, List.getElem_toArray, List.getElem_cons_zero, List.getElem_cons_succ, List.setIfInBounds_toArray, List.set_cons_zero, List.set_cons_succ]
  refine wpAnyH_take (i := 10) (v := ?_) rfl (by kernel_rfl) (by kernel_rfl) (by kernel_rfl) (fun _ _ _ h => h) (Or.inl ⟨by rfl, ?_⟩) (by assumption) ?_
  rotate_left
  · intro w hSw
    clear hSw
    go_simp
    try with_reducible rfl
  try simp only [Act.put, List.getElem_toArray, List.getElem_cons_zero, List.getElem_cons_succ, List.setIfInBounds_toArray, List.set_cons_zero, List.set_cons_succ]
  refine wpAnyH_take (i := 11) (v := ?_) rfl (by kernel_rfl) (by kernel_rfl) (by kernel_rfl) (fun _ _ _ h => h) (Or.inl ⟨by rfl, ?_⟩) (by assumption) ?_
  rotate_left
  · intro w hSw
    have c := HQ.out w 21 hSw
    dsimp only [Adf.cells] at c
    clear hSw
    go_simp
    try with_reducible rfl
  try simp only [Act.put, List.getElem_toArray, List.getElem_cons_zero, List.getElem_cons_succ, List.setIfInBounds_toArray, List.set_cons_zero, List.set_cons_succ]
  refine wpAnyH_take (i := 12) (v := ?_) rfl (by kernel_rfl) (by kernel_rfl) (by kernel_rfl) (fun _ _ _ h => h) (Or.inl ⟨by rfl, ?_⟩) (by assumption) ?_
  rotate_left
  · intro w hSw
    clear hSw
    go_simp
    try with_reducible rfl
  try simp only [Act.put, List.getElem_toArray, List.getElem_cons_zero, List.getElem_cons_succ, List.setIfInBounds_toArray, List.set_cons_zero, List.set_cons_succ]
  refine wpAnyH_take (i := 13) (v := ?_) rfl (by kernel_rfl) (by kernel_rfl) (by kernel_rfl) (fun _ _ _ h => h) (Or.inl ⟨by rfl, ?_⟩) (by assumption) ?_
  rotate_left
  · intro w hSw
    clear hSw
    go_simp
    try with_reducible rfl
  try simp only [Act.put, List.getElem_toArray, List.getElem_cons_zero, List.getElem_cons_succ, List.setIfInBounds_toArray, List.set_cons_zero, List.set_cons_succ]
  refine wpAnyH_take (i := 15) (v := ?_) rfl (by kernel_rfl) (by kernel_rfl) (by kernel_rfl) (fun _ _ _ h => h) (Or.inl ⟨by rfl, ?_⟩) (by assumption) ?_
  rotate_left
  · intro w hSw
    clear hSw
    go_simp
    try with_reducible rfl
  try simp only [Act.put, List.getElem_toArray, List.getElem_cons_zero, List.getElem_cons_succ, List.setIfInBounds_toArray, List.set_cons_zero, List.set_cons_succ]
  refine wpAnyH_take (i := 16) (v := ?_) rfl (by kernel_rfl) (by kernel_rfl) (by kernel_rfl) (fun _ _ _ h => h) (Or.inl ⟨by rfl, ?_⟩) (by assumption) ?_
  rotate_left
  · intro w hSw
    have c := HQ.out w 22 hSw
    dsimp only [Adf.cells] at c
    clear hSw
    go_simp
    try with_reducible rfl
  try simp only [Act.put, List.getElem_toArray, List.getElem_cons_zero, List.getElem_cons_succ, List.setIfInBounds_toArray, List.set_cons_zero, List.set_cons_succ]
  refine wpAnyH_take (i := 18) (v := ?_) rfl (by kernel_rfl) (by kernel_rfl) (by kernel_rfl) (fun _ _ _ h => h) (Or.inl ⟨by rfl, ?_⟩) (by assumption) ?_
  rotate_left
  · intro w hSw
    clear hSw
    go_simp
    try with_reducible rfl
  try simp only [Act.put, List.getElem_toArray, List.getElem_cons_zero, List.getElem_cons_succ, List.setIfInBounds_toArray, List.set_cons_zero, List.set_cons_succ]
  refine wpAnyH_take (i := 19) (v := ?_) rfl (by kernel_rfl) (by kernel_rfl) (by kernel_rfl) (fun _ _ _ h => h) (Or.inl ⟨by rfl, ?_⟩) (by assumption) ?_
  rotate_left
  · intro w hSw
    have c := HQ.out w 23 hSw
    dsimp only [Adf.cells] at c
    clear hSw
    go_simp
    try with_reducible rfl
  try simp only [Act.put, List.getElem_toArray, List.getElem_cons_zero, List.getElem_cons_succ, List.setIfInBounds_toArray, List.set_cons_zero, List.set_cons_succ]
  refine wpAnyH_take (i := 20) (v := ?_) rfl (by kernel_rfl) (by kernel_rfl) (by kernel_rfl) (fun _ _ _ h => h) (Or.inl ⟨by rfl, ?_⟩) (by assumption) ?_
  rotate_left
  · intro w hSw
    clear hSw
    go_simp
    try with_reducible rfl
  try simp only [Act.put, List.getElem_toArray, List.getElem_cons_zero, List.getElem_cons_succ, List.setIfInBounds_toArray, List.set_cons_zero, List.set_cons_succ]
  refine wpAnyH_ready (rs := [4]) (by kernel_rfl) (by simp) ?_
  refine AllReadyH.cons rfl (fun K hK => ?_) AllReadyH.nil
  have HZ5 := Lib.hid (heap_alloc_last w4 (.cells #[.int .u8 0, .int .u8 q.tok] 5))
  have HB5 := Lib.hid (HB4.out.alloc HB4.out.size (.cells #[.int .u8 0, .int .u8 q.tok] 5))
  have HE5 := Lib.hid (show w4.heap.size < (w4.alloc (.cells #[.int .u8 0, .int .u8 q.tok] 5)).heap.size by simp)
  have HO5 := Lib.hid (World.ownsRow.alloc HO4.out (.cells #[.int .u8 0, .int .u8 q.tok] 5))
  clear hHeld
  go_simp
  refine hK.out _ _ HB5.out (fun hHeld => ?_)
  clear hK K
  generalize World.alloc w4 _ = w5 at *
  generalize hh5 : w4.heap.size = h5 at *
  clear hh5
  try simp only [Act.put, List.getElem_toArray, List.getElem_cons_zero, List.getElem_cons_succ, List.setIfInBounds_toArray, List.set_cons_zero, List.set_cons_succ]
  refine wpAnyH_ready (rs := [5]) (by kernel_rfl) (by simp) ?_
  refine AllReadyH.cons rfl (fun K hK => ?_) AllReadyH.nil
  refine step_app_own rfl (.tmp 82) (.tmp 86) rfl w1.heap.size g3 25 cap3 _ (by rfl) HO5.out ⟨h5, 0, none⟩ 2 2 [0, q.tok] (by rfl) rfl (by omega) (World.news_of_block (cs := #[.int .u8 0, .int .u8 q.tok]) (t := 5) (fr := (0, 0)) HZ5.out) (by omega) HB5.out.size ?_
  intro g7 cap7 w7 hO7 hb7
  have HO7 := hO7
  have HB7 := Lib.hid (HB5.out.trans hb7.out)
  clear hO7 hb7
  clear hHeld
  refine hK.out _ _ HB7.out (fun hHeld => ?_)
  clear hK K
  try simp only [Act.put, List.getElem_toArray, List.getElem_cons_zero, List.getElem_cons_succ, List.setIfInBounds_toArray, List.set_cons_zero, List.set_cons_succ]
  refine wpAnyH_ready (rs := [14]) (by kernel_rfl) (by simp) ?_
  refine AllReadyH.cons rfl (fun K hK => ?_) AllReadyH.nil
  go_simp
  refine (two_own w1.heap.size g7 27 cap7 _ ((2 + q.tid * 4 + q.size * 64)) _ HO7.out HB7.out.size (by omega) (by omega) (by omega)).mono ?_
  rintro e' w8 ⟨g8, cap8, rfl, hO, hb⟩
  have HO8 := Lib.hid hO
  have HB8 := Lib.hid (HB7.out.trans hb)
  clear hO hb 
  clear hHeld
  refine hK.out _ _ HB8.out (fun hHeld => ?_)
  clear hK K
  try simp only [Act.put, List.getElem_toArray, List.getElem_cons_zero, List.getElem_cons_succ, List.setIfInBounds_toArray, List.set_cons_zero, List.set_cons_succ]
  refine wpAnyH_ready (rs := [17]) (by kernel_rfl) (by simp) ?_
  refine AllReadyH.cons rfl (fun K hK => ?_) AllReadyH.nil
  go_simp
  refine (two_own w1.heap.size g8 29 cap8 _ (q.tmo) _ HO8.out HB8.out.size (by omega) (by omega) (by omega)).mono ?_
  rintro e' w9 ⟨g9, cap9, rfl, hO, hb⟩
  have HO9 := Lib.hid hO
  have HB9 := Lib.hid (HB8.out.trans hb)
  clear hO hb 
  clear hHeld
  refine hK.out _ _ HB9.out (fun hHeld => ?_)
  clear hK K
  try simp only [Act.put, List.getElem_toArray, List.getElem_cons_zero, List.getElem_cons_succ, List.setIfInBounds_toArray, List.set_cons_zero, List.set_cons_succ]
  refine wpAnyH_ready (rs := [21]) (by kernel_rfl) (by simp) ?_
  refine AllReadyH.cons rfl (fun K hK => ?_) AllReadyH.nil
  go_simp
  refine (two_own w1.heap.size g9 31 cap9 _ (q.seq * 16) _ HO9.out HB9.out.size (by omega) (by omega) (by omega)).mono ?_
  rintro e' w10 ⟨g10, cap10, rfl, hO, hb⟩
  have HO10 := Lib.hid hO
  have HB10 := Lib.hid (HB9.out.trans hb)
  clear hO hb 
  clear hHeld
  refine hK.out _ _ HB10.out (fun hHeld => ?_)
  clear hK K
  try simp only [Act.put, List.getElem_toArray, List.getElem_cons_zero, List.getElem_cons_succ, List.setIfInBounds_toArray, List.set_cons_zero, List.set_cons_succ]
  refine wpAnyH_take (i := 22) (v := ?_) rfl (by kernel_rfl) (by kernel_rfl) (by kernel_rfl) (fun _ _ _ h => h) (Or.inl ⟨by rfl, ?_⟩) (by assumption) ?_
  rotate_left
  · intro w hSw
    clear hSw
    go_simp
    try with_reducible rfl
  try simp only [Act.put, List.getElem_toArray, List.getElem_cons_zero, List.getElem_cons_succ, List.setIfInBounds_toArray, List.set_cons_zero, List.set_cons_succ]
  refine wpAnyH_take (i := 23) (v := ?_) rfl (by kernel_rfl) (by kernel_rfl) (by kernel_rfl) (fun _ _ _ h => h) (Or.inl ⟨by rfl, ?_⟩) (by assumption) ?_
  rotate_left
  · intro w hSw
    clear hSw
    go_simp
    try with_reducible rfl
  try simp only [Act.put, List.getElem_toArray, List.getElem_cons_zero, List.getElem_cons_succ, List.setIfInBounds_toArray, List.set_cons_zero, List.set_cons_succ]
  refine wpAnyH_done (by kernel_rfl) ?_ _
  clear hHeld
  go_wp2
  go_ret2
  refine ⟨g10, cap10, rfl, ?_, HB.out.trans (HB10.out.mono HB.out.size)⟩
  have h2 := HO10.out
  rw [HL.out] at h2
  exact h2.base HB.out.size
theorem refAdd_yes (q : Adf) (w : World) (hok : okAdd q = true) :
    Calls Tryd.prog 10 #[q.val] w fun e w' => ∃ g cap, e = .returned (.tuple #[.slice (some ⟨g, 0, none⟩) 33 cap, .int .i64 0]) ∧ OwnB w' w.heap.size 5 .u8 g 33 cap (encAdd q) ∧ Below w.heap.size w w' := by
  cases hm : q.ans
  · exact refAdd_ask q w hok hm
  · exact refAdd_ans q w hok hm
end Go.Proofs.YtjgingfcfmpfaaaDoor
