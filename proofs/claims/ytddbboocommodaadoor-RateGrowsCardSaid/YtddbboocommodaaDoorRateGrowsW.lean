/-
  The walk of muezzin/muezzinlaw8.RateGrows: the Go text returns true.
-/
import Derived.Test.YtddbboocommodaaDoorRateJ
import Derived.Test.YtddbboocommodaaDoorOpenR
import Derived.Deep.RegionHeld3
namespace Go.Proofs.YtddbboocommodaaDoor.rateGrows
open Go.ChangeShapes Go.WideShapes Go.ChangeAt Go.RowKit Go.Joins Go.Deep
set_option linter.unusedVariables false
set_option linter.unusedSimpArgs false

theorem all_pos {m : Int} (h1 : 1 ≤ m) (h4 : m ≤ 4) : 0 < (allR m).length := by
  rcases (by omega : m = 1 ∨ m = 2 ∨ m = 3 ∨ m = 4) with rfl | rfl | rfl | rfl
  · rw [all_1]; decide
  · rw [all_2]; decide
  · rw [all_3]; decide
  · rw [all_4]; decide
theorem row_at {w : World} {b off n : Nat} {l : List Rt} (h : RowR w (some ⟨b, off, none⟩) n l) (i : Nat) (hi : i < n) : w.rangeAt b (off + i * 5) (l.getD i d0).cells := by
  obtain ⟨b', off', e, hc⟩ := h.el i hi
  cases e
  exact hc
set_option maxRecDepth 100000 in
set_option maxHeartbeats 8000000 in
theorem walk (n0 : Int) (n1 : Int) (n2 : Int) (w : World) (hS : Tab w) (w0 : (Lit.int .i64 n0).wf = true) (w1 : (Lit.int .i64 n1).wf = true) (w2 : (Lit.int .i64 n2).wf = true) :
    Calls Tryd.prog 5 #[.int .i64 n0, .int .i64 n1, .int .i64 n2] w fun e w' => e = .returned (.bool true) ∧ Below w.heap.size w w' := by
  have HT := Lib.hid hS
  have HW0 := Lib.hid w0
  have HW1 := Lib.hid w1
  have HW2 := Lib.hid w2
  clear hS w0 w1 w2
  go_enter Tryd.func5, Tryd.ntmps5
  go_wp2_with (fail)
  refine (first_any w HT.out).mono ?_
  rintro e w2 ⟨rfl, hB⟩
  have HB := Lib.hid hB
  clear hB
  have m0 := nmod_lo n0 4 (by omega)
  have m1 := nmod_hi n0 4 (by omega)
  go_wp2_with (fail)
  refine (number_any n0 4 w2 HW0.out (by omega) (by omega)).mono ?_
  rintro e w' ⟨rfl, rfl⟩
  generalize nmod n0 4 = m' at *
  have HM4 := Lib.hid (show 1 ≤ m' + 1 ∧ m' + 1 ≤ 4 ∧ 1 ≤ m' + 1 by omega)
  go_wp2_with (fail)
  refine (all_any (m' + 1) w2).mono ?_
  clear m0 m1
  generalize m' + 1 = m at *
  rintro e w3 ⟨A, c, rfl, hr, hc, hB⟩
  have HR := Lib.hid hr
  clear hr hc
  have T0 := Lib.hid (HB.out.trans (hB.mono HB.out.size))
  clear hB HB
  have HB := T0
  clear T0
  have HAG := Lib.hid (fun (i : Nat) (hi : i < (allR m).length) => all_get (m := m) d0 hi)
  have hpos : 0 < (allR m).length := all_pos HM4.out.1 HM4.out.2.1
  have hle : (allR m).length ≤ 1152 := all_le m
  generalize allR m = l at *
  generalize l.length = n at *
  obtain ⟨b, off, rfl, -⟩ := HR.out.els hpos
  have hn0 : ((n : Int) == 0) = false := by simp; omega
  have i0 := nmod_lo n1 n (by omega)
  have i1 := nmod_hi n1 n (by omega)
  go_wp2_with (fail)
  refine (number_any n1 n w3 HW1.out (by omega) (by omega)).mono ?_
  rintro e w' ⟨rfl, rfl⟩
  obtain ⟨q1, hq1⟩ := Int.eq_ofNat_of_zero_le i0
  rw [hq1] at i1 ⊢
  have hiq1 : q1 < n := by omega
  clear i0 hq1
  have HC1 := Lib.hid (row_at HR.out q1 hiq1)
  obtain ⟨hv, hm⟩ := HAG.out q1 hiq1
  have HV1 := Lib.hid hv
  have HM1 := Lib.hid hm
  clear hv hm
  generalize l.getD q1 d0 = ra at *
  obtain ⟨am, ac, av, ax, ag⟩ := ra
  have HG1 := Lib.hid (heap_alloc_last w3 (.cells (Rt.arr ⟨am, ac, av, ax, ag⟩) 27))
  have T0 := Lib.hid (HB.out.alloc HB.out.size (.cells (Rt.arr ⟨am, ac, av, ax, ag⟩) 27))
  have T1 := Lib.hid (HR.out.below ((Below.refl w3.heap.size w3).alloc (Nat.le_refl _) (.cells (Rt.arr ⟨am, ac, av, ax, ag⟩) 27)))
  clear HB HR
  have HB := T0
  have HR := T1
  clear T0 T1
  go_wp2_with (refine wpList_load_mid rfl 27 (.tmp 27) rfl b (off + q1 * 5) rfl [.int .i64 am, .int .i64 ac, .int .i64 av, .int .i64 ax, .int .i64 ag] _ HC1.out Tryd.underlying27 rfl sizeRate ?_)
  generalize World.alloc w3 _ = w4 at *
  generalize w3.heap.size = g1 at *
  clear HC1
  have i0 := nmod_lo n2 n (by omega)
  have i1 := nmod_hi n2 n (by omega)
  go_wp2_with (fail)
  refine (number_any n2 n w4 HW2.out (by omega) (by omega)).mono ?_
  rintro e w' ⟨rfl, rfl⟩
  obtain ⟨q2, hq2⟩ := Int.eq_ofNat_of_zero_le i0
  rw [hq2] at i1 ⊢
  have hiq2 : q2 < n := by omega
  clear i0 hq2
  have HC2 := Lib.hid (row_at HR.out q2 hiq2)
  obtain ⟨hv, hm⟩ := HAG.out q2 hiq2
  have HV2 := Lib.hid hv
  have HM2 := Lib.hid hm
  clear hv hm
  generalize l.getD q2 d0 = rb at *
  obtain ⟨bm, bc, bv, bx, bg⟩ := rb
  have HG2 := Lib.hid (heap_alloc_last w4 (.cells (Rt.arr ⟨bm, bc, bv, bx, bg⟩) 27))
  have T_HG1 := Lib.hid ((((Below.refl w4.heap.size w4).alloc (Nat.le_refl _) (.cells (Rt.arr ⟨bm, bc, bv, bx, bg⟩) 27)).block _ (lt_blk HG1.out)).trans HG1.out)
  clear HG1
  have HG1 := T_HG1
  clear T_HG1
  have T0 := Lib.hid (HB.out.alloc HB.out.size (.cells (Rt.arr ⟨bm, bc, bv, bx, bg⟩) 27))
  have T1 := Lib.hid (HR.out.below ((Below.refl w4.heap.size w4).alloc (Nat.le_refl _) (.cells (Rt.arr ⟨bm, bc, bv, bx, bg⟩) 27)))
  clear HB HR
  have HB := T0
  have HR := T1
  clear T0 T1
  have hx0 := rt_cell (r := Rt.mk am ac av ax ag) HG1.out 0
  have hx1 := rt_cell (r := Rt.mk am ac av ax ag) HG1.out 1
  have hx2 := rt_cell (r := Rt.mk am ac av ax ag) HG1.out 2
  have hx3 := rt_cell (r := Rt.mk am ac av ax ag) HG1.out 3
  have hx4 := rt_cell (r := Rt.mk am ac av ax ag) HG1.out 4
  dsimp only [Rt.arr] at hx0 hx1 hx2 hx3 hx4
  simp only [List.getElem?_toArray, List.getElem?_cons_zero, List.getElem?_cons_succ] at hx0 hx1 hx2 hx3 hx4
  go_wp2_with (refine wpList_load_mid rfl 27 (.tmp 34) rfl b (off + q2 * 5) rfl [.int .i64 bm, .int .i64 bc, .int .i64 bv, .int .i64 bx, .int .i64 bg] _ HC2.out Tryd.underlying27 rfl sizeRate ?_)
  generalize World.alloc w4 _ = w5 at *
  generalize w4.heap.size = g2 at *
  clear HC2 hx0 hx1 hx2 hx3 hx4
  have HLS := Lib.hid (least_of HV1.out)
  refine (valid_any (Rt.mk am ac av ax ag) w5).mono ?_
  rintro e w6 ⟨rfl, hB⟩
  rw [HV1.out]
  have T0 := Lib.hid (HB.out.trans (hB.mono HB.out.size))
  have T1 := Lib.hid ((hB.block _ (lt_blk HG1.out)).trans HG1.out)
  have T2 := Lib.hid ((hB.block _ (lt_blk HG2.out)).trans HG2.out)
  clear hB HB HG1 HG2
  have HB := T0
  have HG1 := T1
  have HG2 := T2
  clear T0 T1 T2
  have hx0 := rt_cell (r := Rt.mk am ac av ax ag) HG1.out 0
  have hx1 := rt_cell (r := Rt.mk am ac av ax ag) HG1.out 1
  have hx2 := rt_cell (r := Rt.mk am ac av ax ag) HG1.out 2
  have hx3 := rt_cell (r := Rt.mk am ac av ax ag) HG1.out 3
  have hx4 := rt_cell (r := Rt.mk am ac av ax ag) HG1.out 4
  dsimp only [Rt.arr] at hx0 hx1 hx2 hx3 hx4
  simp only [List.getElem?_toArray, List.getElem?_cons_zero, List.getElem?_cons_succ] at hx0 hx1 hx2 hx3 hx4
  go_wp2_with (fail)
  clear hx0 hx1 hx2 hx3 hx4
  refine (bits_any (Rt.mk am ac av ax ag) w6 (HT.out.below HB.out)).mono ?_
  rintro e w7 ⟨rfl, hB⟩
  have T0 := Lib.hid (HB.out.trans (hB.mono HB.out.size))
  have T1 := Lib.hid ((hB.block _ (lt_blk HG1.out)).trans HG1.out)
  have T2 := Lib.hid ((hB.block _ (lt_blk HG2.out)).trans HG2.out)
  clear hB HB HG1 HG2
  have HB := T0
  have HG1 := T1
  have HG2 := T2
  clear T0 T1 T2
  have h24 := HLS.out.1
  generalize hq1 : bitsR (Rt.mk am ac av ax ag) = ba at *
  have HQ1 := Lib.hid hq1
  clear hq1
  have hx0 := rt_cell (r := Rt.mk am ac av ax ag) HG1.out 0
  have hx1 := rt_cell (r := Rt.mk am ac av ax ag) HG1.out 1
  have hx2 := rt_cell (r := Rt.mk am ac av ax ag) HG1.out 2
  have hx3 := rt_cell (r := Rt.mk am ac av ax ag) HG1.out 3
  have hx4 := rt_cell (r := Rt.mk am ac av ax ag) HG1.out 4
  dsimp only [Rt.arr] at hx0 hx1 hx2 hx3 hx4
  simp only [List.getElem?_toArray, List.getElem?_cons_zero, List.getElem?_cons_succ] at hx0 hx1 hx2 hx3 hx4
  go_wp2_with (fail)
  clear hx0 hx1 hx2 hx3 hx4
  refine (sym_any (Rt.mk am ac av ax ag) w7).mono ?_
  rintro e w8 ⟨rfl, hB⟩
  have T0 := Lib.hid (HB.out.trans (hB.mono HB.out.size))
  have T1 := Lib.hid ((hB.block _ (lt_blk HG1.out)).trans HG1.out)
  have T2 := Lib.hid ((hB.block _ (lt_blk HG2.out)).trans HG2.out)
  clear hB HB HG1 HG2
  have HB := T0
  have HG1 := T1
  have HG2 := T2
  clear T0 T1 T2
  have h36 := HLS.out.2.1
  generalize symR (Rt.mk am ac av ax ag) = sa at *
  have hx0 := rt_cell (r := Rt.mk am ac av ax ag) HG1.out 0
  have hx1 := rt_cell (r := Rt.mk am ac av ax ag) HG1.out 1
  have hx2 := rt_cell (r := Rt.mk am ac av ax ag) HG1.out 2
  have hx3 := rt_cell (r := Rt.mk am ac av ax ag) HG1.out 3
  have hx4 := rt_cell (r := Rt.mk am ac av ax ag) HG1.out 4
  dsimp only [Rt.arr] at hx0 hx1 hx2 hx3 hx4
  simp only [List.getElem?_toArray, List.getElem?_cons_zero, List.getElem?_cons_succ] at hx0 hx1 hx2 hx3 hx4
  go_wp2_with (fail)
  clear hx0 hx1 hx2 hx3 hx4
  refine (pre_any (Rt.mk am ac av ax ag) w8).mono ?_
  rintro e w9 ⟨rfl, hB⟩
  have T0 := Lib.hid (HB.out.trans (hB.mono HB.out.size))
  have T1 := Lib.hid ((hB.block _ (lt_blk HG1.out)).trans HG1.out)
  have T2 := Lib.hid ((hB.block _ (lt_blk HG2.out)).trans HG2.out)
  clear hB HB HG1 HG2
  have HB := T0
  have HG1 := T1
  have HG2 := T2
  clear T0 T1 T2
  have h200 := HLS.out.2.2
  generalize hq2 : preR (Rt.mk am ac av ax ag) = pa at *
  have HQ2 := Lib.hid hq2
  clear hq2
  have ca1 : w9.cell? ⟨g1, 1, none⟩ = some (.int .i64 ac) := rt_cell (r := Rt.mk am ac av ax ag) HG1.out 1
  have ca2 : w9.cell? ⟨g1, 2, none⟩ = some (.int .i64 av) := rt_cell (r := Rt.mk am ac av ax ag) HG1.out 2
  have ca3 : w9.cell? ⟨g1, 3, none⟩ = some (.int .i64 ax) := rt_cell (r := Rt.mk am ac av ax ag) HG1.out 3
  have cb1 : w9.cell? ⟨g2, 1, none⟩ = some (.int .i64 bc) := rt_cell (r := Rt.mk bm bc bv bx bg) HG2.out 1
  have cb2 : w9.cell? ⟨g2, 2, none⟩ = some (.int .i64 bv) := rt_cell (r := Rt.mk bm bc bv bx bg) HG2.out 2
  have cb3 : w9.cell? ⟨g2, 3, none⟩ = some (.int .i64 bx) := rt_cell (r := Rt.mk bm bc bv bx bg) HG2.out 3
  have HGR := Lib.hid (fun h1 h2 h3 => grows HV1.out HV2.out (HM1.out.trans HM2.out.symm) h1 h2 h3)
  dsimp only at HGR
  cases e1 : decide (ac ≤ bc)
  · go_wp2
    go_ret
    exact ⟨rfl, HB.out⟩
  cases e2 : decide (av ≤ bv)
  · go_wp2
    go_ret
    exact ⟨rfl, HB.out⟩
  cases e3 : decide (ax ≤ bx)
  · go_wp2
    go_ret
    exact ⟨rfl, HB.out⟩
  obtain ⟨hbb, hpp⟩ := HGR.out (of_decide_eq_true e1) (of_decide_eq_true e2) (of_decide_eq_true e3)
  rw [HQ1.out] at hbb
  rw [HQ2.out] at hpp
  have e4 : decide (bv < av) = false := by have := of_decide_eq_true e2; simp; omega
  generalize hq3 : bitsR (Rt.mk bm bc bv bx bg) = bb at *
  generalize hq4 : preR (Rt.mk bm bc bv bx bg) = pb at *
  have HQ3 := Lib.hid hq3
  have HQ4 := Lib.hid hq4
  clear hq3 hq4
  have e5 : decide (ba ≤ bb) = true := by simpa using hbb
  have e6 : decide (pa ≤ pb) = true := by simpa using hpp
  clear hbb hpp
  have HG1' := Lib.hid (fun (w' : World) (hB : Below w9.heap.size w9 w') => (hB.block _ (lt_blk HG1.out)).trans HG1.out)
  have HG2' := Lib.hid (fun (w' : World) (hB : Below w9.heap.size w9 w') => (hB.block _ (lt_blk HG2.out)).trans HG2.out)
  have HT' := Lib.hid (fun (w' : World) (hB : Below w9.heap.size w9 w') => HT.out.below (HB.out.trans (hB.mono HB.out.size)))
  have HS1 := Lib.hid (fun (w' : World) (hB : Below w9.heap.size w9 w') => (show w'.cell? ⟨g1, 2, none⟩ = some (.int .i64 av) from rt_cell (r := Rt.mk am ac av ax ag) (HG1'.out w' hB) 2))
  have HS2 := Lib.hid (fun (w' : World) (hB : Below w9.heap.size w9 w') => (show w'.cell? ⟨g2, 2, none⟩ = some (.int .i64 bv) from rt_cell (r := Rt.mk bm bc bv bx bg) (HG2'.out w' hB) 2))
  go_wp2_with (fail)
  refine wp_region_held_drew (S := fun w' => Below w9.heap.size w9 w') (by kernel_rfl) (Below.refl _ _).drew (fun hHeld => ?_)
  generalize World.drew w9 = w10 at *
  have HZ10 := Lib.hid hHeld
  refine wpAnyH_take (i := 0) (v := ?_) rfl (by kernel_rfl) (by kernel_rfl) (by kernel_rfl) (fun _ _ _ h => h) (Or.inl ⟨by rfl, ?_⟩) (by assumption) ?_
  rotate_left
  · intro w hSw
    clear hSw
    go_simp
    try with_reducible rfl
  try simp only [Act.put, List.getElem_toArray, List.getElem_cons_zero, List.getElem_cons_succ, List.setIfInBounds_toArray, List.set_cons_zero, List.set_cons_succ]
  refine wpAnyH_take (i := 1) (v := ?_) rfl (by kernel_rfl) (by kernel_rfl) (by kernel_rfl) (fun _ _ _ h => h) (Or.inl ⟨by rfl, ?_⟩) (by assumption) ?_
  rotate_left
  · intro w hSw
    clear hSw
    go_simp
    try with_reducible rfl
  try simp only [Act.put, List.getElem_toArray, List.getElem_cons_zero, List.getElem_cons_succ, List.setIfInBounds_toArray, List.set_cons_zero, List.set_cons_succ]
  refine wpAnyH_take (i := 2) (v := .agg (Rt.arr (Rt.mk am ac av ax ag))) rfl (by kernel_rfl) (by kernel_rfl) (by kernel_rfl) (fun _ _ _ h => h) (yieldsIf_load_mid (by rfl) 27 (.tmp 9) rfl g1 (0) rfl ((Rt.arr (Rt.mk am ac av ax ag))).toList _ (fun w' hw' => block_range (HG1'.out w' hw')) Tryd.underlying27 rfl sizeRate) (by assumption) ?_
  try simp only [Act.put, List.getElem_toArray, List.getElem_cons_zero, List.getElem_cons_succ, List.setIfInBounds_toArray, List.set_cons_zero, List.set_cons_succ]
  refine wpAnyH_take (i := 4) (v := .agg (Rt.arr (Rt.mk bm bc bv bx bg))) rfl (by kernel_rfl) (by kernel_rfl) (by kernel_rfl) (fun _ _ _ h => h) (yieldsIf_load_mid (by rfl) 27 (.tmp 10) rfl g2 (0) rfl ((Rt.arr (Rt.mk bm bc bv bx bg))).toList _ (fun w' hw' => block_range (HG2'.out w' hw')) Tryd.underlying27 rfl sizeRate) (by assumption) ?_
  try simp only [Act.put, List.getElem_toArray, List.getElem_cons_zero, List.getElem_cons_succ, List.setIfInBounds_toArray, List.set_cons_zero, List.set_cons_succ]
  refine wpAnyH_ready (rs := [3]) (by kernel_rfl) (by simp) ?_
  refine AllReadyH.cons rfl (fun K hK => ?_) AllReadyH.nil
  go_simp
  refine (bits_any (Rt.mk am ac av ax ag) w10 (HT'.out _ HZ10.out)).mono ?_
  rintro e' w11 ⟨rfl, hb⟩
  rw [HQ1.out]
  have HZ11 := Lib.hid (HZ10.out.trans (hb.mono HZ10.out.size))
  clear hb hHeld HZ10
  refine hK.out _ _ HZ11.out (fun hHeld => ?_)
  clear hK K
  try simp only [Act.put, List.getElem_toArray, List.getElem_cons_zero, List.getElem_cons_succ, List.setIfInBounds_toArray, List.set_cons_zero, List.set_cons_succ]
  refine wpAnyH_ready (rs := [5]) (by kernel_rfl) (by simp) ?_
  refine AllReadyH.cons rfl (fun K hK => ?_) AllReadyH.nil
  go_simp
  refine (bits_any (Rt.mk bm bc bv bx bg) w11 (HT'.out _ HZ11.out)).mono ?_
  rintro e' w12 ⟨rfl, hb⟩
  rw [HQ3.out]
  have HZ12 := Lib.hid (HZ11.out.trans (hb.mono HZ11.out.size))
  clear hb hHeld HZ11
  refine hK.out _ _ HZ12.out (fun hHeld => ?_)
  clear hK K
  try simp only [Act.put, List.getElem_toArray, List.getElem_cons_zero, List.getElem_cons_succ, List.setIfInBounds_toArray, List.set_cons_zero, List.set_cons_succ]
  refine wpAnyH_take (i := 6) (v := ?_) rfl (by kernel_rfl) (by kernel_rfl) (by kernel_rfl) (fun _ _ _ h => h) (Or.inl ⟨by rfl, ?_⟩) (by assumption) ?_
  rotate_left
  · intro w hSw
    clear hSw
    go_simp
    try with_reducible rfl
  try simp only [Act.put, List.getElem_toArray, List.getElem_cons_zero, List.getElem_cons_succ, List.setIfInBounds_toArray, List.set_cons_zero, List.set_cons_succ]
  refine wpAnyH_take (i := 7) (v := ?_) rfl (by kernel_rfl) (by kernel_rfl) (by kernel_rfl) (fun _ _ _ h => h) (Or.inl ⟨by rfl, ?_⟩) (by assumption) ?_
  rotate_left
  · intro w hSw
    clear hSw
    go_simp
    try with_reducible rfl
  try simp only [Act.put, List.getElem_toArray, List.getElem_cons_zero, List.getElem_cons_succ, List.setIfInBounds_toArray, List.set_cons_zero, List.set_cons_succ]
  refine wpAnyH_take (i := 8) (v := ?_) rfl (by kernel_rfl) (by kernel_rfl) (by kernel_rfl) (fun _ _ _ h => h) (Or.inl ⟨by rfl, ?_⟩) (by assumption) ?_
  rotate_left
  · intro w hSw
    clear hSw
    go_simp
    try with_reducible rfl
  try simp only [Act.put, List.getElem_toArray, List.getElem_cons_zero, List.getElem_cons_succ, List.setIfInBounds_toArray, List.set_cons_zero, List.set_cons_succ]
  refine wpAnyH_take (i := 9) (v := ?_) rfl (by kernel_rfl) (by kernel_rfl) (by kernel_rfl) (fun _ _ _ h => h) (Or.inl ⟨by rfl, ?_⟩) (by assumption) ?_
  rotate_left
  · intro w hSw
    clear hSw
    go_simp
    try with_reducible rfl
  try simp only [Act.put, List.getElem_toArray, List.getElem_cons_zero, List.getElem_cons_succ, List.setIfInBounds_toArray, List.set_cons_zero, List.set_cons_succ]
  refine wpAnyH_take (i := 10) (v := ?_) rfl (by kernel_rfl) (by kernel_rfl) (by kernel_rfl) (fun _ _ _ h => h) (Or.inl ⟨by rfl, ?_⟩) (by assumption) ?_
  rotate_left
  · intro w hSw
    have c := HS1.out w hSw
    clear hSw
    go_simp
    try with_reducible rfl
  try simp only [Act.put, List.getElem_toArray, List.getElem_cons_zero, List.getElem_cons_succ, List.setIfInBounds_toArray, List.set_cons_zero, List.set_cons_succ]
  refine wpAnyH_take (i := 11) (v := ?_) rfl (by kernel_rfl) (by kernel_rfl) (by kernel_rfl) (fun _ _ _ h => h) (Or.inl ⟨by rfl, ?_⟩) (by assumption) ?_
  rotate_left
  · intro w hSw
    clear hSw
    go_simp
    try with_reducible rfl
  try simp only [Act.put, List.getElem_toArray, List.getElem_cons_zero, List.getElem_cons_succ, List.setIfInBounds_toArray, List.set_cons_zero, List.set_cons_succ]
  refine wpAnyH_take (i := 12) (v := ?_) rfl (by kernel_rfl) (by kernel_rfl) (by kernel_rfl) (fun _ _ _ h => h) (Or.inl ⟨by rfl, ?_⟩) (by assumption) ?_
  rotate_left
  · intro w hSw
    have c := HS2.out w hSw
    clear hSw
    go_simp
    try with_reducible rfl
  try simp only [Act.put, List.getElem_toArray, List.getElem_cons_zero, List.getElem_cons_succ, List.setIfInBounds_toArray, List.set_cons_zero, List.set_cons_succ]
  refine wpAnyH_take (i := 13) (v := ?_) rfl (by kernel_rfl) (by kernel_rfl) (by kernel_rfl) (fun _ _ _ h => h) (Or.inl ⟨by rfl, ?_⟩) (by assumption) ?_
  rotate_left
  · intro w hSw
    clear hSw
    go_simp
    try with_reducible rfl
  try simp only [Act.put, List.getElem_toArray, List.getElem_cons_zero, List.getElem_cons_succ, List.setIfInBounds_toArray, List.set_cons_zero, List.set_cons_succ]
  refine wpAnyH_take (i := 14) (v := ?_) rfl (by kernel_rfl) (by kernel_rfl) (by kernel_rfl) (fun _ _ _ h => h) (Or.inl ⟨by rfl, ?_⟩) (by assumption) ?_
  rotate_left
  · intro w hSw
    clear hSw
    go_simp
    try with_reducible rfl
  try simp only [Act.put, List.getElem_toArray, List.getElem_cons_zero, List.getElem_cons_succ, List.setIfInBounds_toArray, List.set_cons_zero, List.set_cons_succ]
  refine wpAnyH_take (i := 15) (v := .agg (Rt.arr (Rt.mk am ac av ax ag))) rfl (by kernel_rfl) (by kernel_rfl) (by kernel_rfl) (fun _ _ _ h => h) (yieldsIf_load_mid (by rfl) 27 (.tmp 9) rfl g1 (0) rfl ((Rt.arr (Rt.mk am ac av ax ag))).toList _ (fun w' hw' => block_range (HG1'.out w' hw')) Tryd.underlying27 rfl sizeRate) (by assumption) ?_
  try simp only [Act.put, List.getElem_toArray, List.getElem_cons_zero, List.getElem_cons_succ, List.setIfInBounds_toArray, List.set_cons_zero, List.set_cons_succ]
  refine wpAnyH_take (i := 17) (v := .agg (Rt.arr (Rt.mk bm bc bv bx bg))) rfl (by kernel_rfl) (by kernel_rfl) (by kernel_rfl) (fun _ _ _ h => h) (yieldsIf_load_mid (by rfl) 27 (.tmp 10) rfl g2 (0) rfl ((Rt.arr (Rt.mk bm bc bv bx bg))).toList _ (fun w' hw' => block_range (HG2'.out w' hw')) Tryd.underlying27 rfl sizeRate) (by assumption) ?_
  try simp only [Act.put, List.getElem_toArray, List.getElem_cons_zero, List.getElem_cons_succ, List.setIfInBounds_toArray, List.set_cons_zero, List.set_cons_succ]
  refine wpAnyH_ready (rs := [16]) (by kernel_rfl) (by simp) ?_
  refine AllReadyH.cons rfl (fun K hK => ?_) AllReadyH.nil
  go_simp
  refine (pre_any (Rt.mk am ac av ax ag) w12).mono ?_
  rintro e' w13 ⟨rfl, hb⟩
  rw [HQ2.out]
  have HZ13 := Lib.hid (HZ12.out.trans (hb.mono HZ12.out.size))
  clear hb hHeld HZ12
  refine hK.out _ _ HZ13.out (fun hHeld => ?_)
  clear hK K
  try simp only [Act.put, List.getElem_toArray, List.getElem_cons_zero, List.getElem_cons_succ, List.setIfInBounds_toArray, List.set_cons_zero, List.set_cons_succ]
  refine wpAnyH_ready (rs := [18]) (by kernel_rfl) (by simp) ?_
  refine AllReadyH.cons rfl (fun K hK => ?_) AllReadyH.nil
  go_simp
  refine (pre_any (Rt.mk bm bc bv bx bg) w13).mono ?_
  rintro e' w14 ⟨rfl, hb⟩
  rw [HQ4.out]
  have HZ14 := Lib.hid (HZ13.out.trans (hb.mono HZ13.out.size))
  clear hb hHeld HZ13
  refine hK.out _ _ HZ14.out (fun hHeld => ?_)
  clear hK K
  try simp only [Act.put, List.getElem_toArray, List.getElem_cons_zero, List.getElem_cons_succ, List.setIfInBounds_toArray, List.set_cons_zero, List.set_cons_succ]
  refine wpAnyH_take (i := 19) (v := ?_) rfl (by kernel_rfl) (by kernel_rfl) (by kernel_rfl) (fun _ _ _ h => h) (Or.inl ⟨by rfl, ?_⟩) (by assumption) ?_
  rotate_left
  · intro w hSw
    clear hSw
    go_simp
    try with_reducible rfl
  try simp only [Act.put, List.getElem_toArray, List.getElem_cons_zero, List.getElem_cons_succ, List.setIfInBounds_toArray, List.set_cons_zero, List.set_cons_succ]
  refine wpAnyH_take (i := 20) (v := ?_) rfl (by kernel_rfl) (by kernel_rfl) (by kernel_rfl) (fun _ _ _ h => h) (Or.inl ⟨by rfl, ?_⟩) (by assumption) ?_
  rotate_left
  · intro w hSw
    clear hSw
    go_simp
    try with_reducible rfl
  try simp only [Act.put, List.getElem_toArray, List.getElem_cons_zero, List.getElem_cons_succ, List.setIfInBounds_toArray, List.set_cons_zero, List.set_cons_succ]
  refine wpAnyH_take (i := 21) (v := ?_) rfl (by kernel_rfl) (by kernel_rfl) (by kernel_rfl) (fun _ _ _ h => h) (Or.inl ⟨by rfl, ?_⟩) (by assumption) ?_
  rotate_left
  · intro w hSw
    clear hSw
    go_simp
    try with_reducible rfl
  try simp only [Act.put, List.getElem_toArray, List.getElem_cons_zero, List.getElem_cons_succ, List.setIfInBounds_toArray, List.set_cons_zero, List.set_cons_succ]
  refine wpAnyH_take (i := 22) (v := ?_) rfl (by kernel_rfl) (by kernel_rfl) (by kernel_rfl) (fun _ _ _ h => h) (Or.inl ⟨by rfl, ?_⟩) (by assumption) ?_
  rotate_left
  · intro w hSw
    clear hSw
    go_simp
    try with_reducible rfl
  try simp only [Act.put, List.getElem_toArray, List.getElem_cons_zero, List.getElem_cons_succ, List.setIfInBounds_toArray, List.set_cons_zero, List.set_cons_succ]
  refine wpAnyH_done (by kernel_rfl) ?_ _
  try simp only [Act.put, List.getElem_toArray, List.getElem_cons_zero, List.getElem_cons_succ, List.setIfInBounds_toArray, List.set_cons_zero, List.set_cons_succ]
  go_wp2
  go_ret
  exact ⟨rfl, HB.out.trans (HZ14.out.mono HB.out.size)⟩
end Go.Proofs.YtddbboocommodaaDoor.rateGrows
