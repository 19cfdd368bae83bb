/-
  The walk of muezzin/muezzinlaw8.RateGuard: the Go text returns true.
-/
import Derived.Test.YtddbboocommodaaDoorRateJ
import Derived.Test.YtddbboocommodaaDoorOpenR
import Derived.Deep.RegionHeld3
namespace Go.Proofs.YtddbboocommodaaDoor.rateGuard
open Go.ChangeShapes Go.WideShapes Go.ChangeAt Go.RowKit Go.Joins Go.Deep
set_option linter.unusedVariables false
set_option linter.unusedSimpArgs false

theorem all_pos {m : Int} (h1 : 1 ≤ m) (h4 : m ≤ 4) : 0 < (allR m).length := by
  rcases (by omega : m = 1 ∨ m = 2 ∨ m = 3 ∨ m = 4) with rfl | rfl | rfl | rfl
  · rw [all_1]; decide
  · rw [all_2]; decide
  · rw [all_3]; decide
  · rw [all_4]; decide
theorem row_at {w : World} {b off n : Nat} {l : List Rt} (h : RowR w (some ⟨b, off, none⟩) n l) (i : Nat) (hi : i < n) : w.rangeAt b (off + i * 5) (l.getD i d0).cells := by
  obtain ⟨b', off', e, hc⟩ := h.el i hi
  cases e
  exact hc
theorem bad_c {r : Rt} (h : 11 < r.c) : validR r = false := by
  rw [Bool.eq_false_iff]; intro hv; have := (valid_in hv).1; omega
theorem bad_s {r : Rt} (h : 8 < r.s) : validR r = false := by
  rw [Bool.eq_false_iff]; intro hv; have := (valid_in hv).2.1; omega
theorem bad_w {r : Rt} (h : wid r.w < 0) : validR r = false := by
  rw [Bool.eq_false_iff]; intro hv; have := (valid_in hv).2.2.1; omega
theorem bad_g {r : Rt} (h : 2 < r.g) : validR r = false := by
  rw [Bool.eq_false_iff]; intro hv; have := (valid_in hv).2.2.2; omega
theorem bad_m {r : Rt} (h : 4 < r.m) : validR r = false := by
  rw [Bool.eq_false_iff]; intro hv; have := valid_mode hv; omega
theorem bad_0 : validR ⟨0, 0, 0, 0, 0⟩ = false := by
  rw [Bool.eq_false_iff]; intro hv; have : (0 : Int) = 1 ∨ (0 : Int) = 2 ∨ (0 : Int) = 3 ∨ (0 : Int) = 4 := valid_mode hv; omega
theorem none_5 : (allR 5).length = 0 := by rw [all_none ⟨by decide, by decide, by decide, by decide⟩]; rfl
set_option maxRecDepth 100000 in
set_option maxHeartbeats 8000000 in
theorem walk (n0 : Int) (n1 : Int) (n2 : Int) (w : World) (hS : Tab w) (w0 : (Lit.int .i64 n0).wf = true) (w1 : (Lit.int .i64 n1).wf = true) (w2 : (Lit.int .i64 n2).wf = true) :
    Calls Tryd.prog 3 #[.int .i64 n0, .int .i64 n1, .int .i64 n2] w fun e w' => e = .returned (.bool true) ∧ Below w.heap.size w w' := by
  have HT := Lib.hid hS
  have HW0 := Lib.hid w0
  have HW1 := Lib.hid w1
  have HW2 := Lib.hid w2
  clear hS w0 w1 w2
  go_enter Tryd.func3, Tryd.ntmps3
  go_wp2_with (fail)
  refine (first_any w HT.out).mono ?_
  rintro e w2 ⟨rfl, hB⟩
  have HB := Lib.hid hB
  clear hB
  have m0 := nmod_lo n0 3 (by omega)
  have m1 := nmod_hi n0 3 (by omega)
  go_wp2_with (fail)
  refine (number_any n0 3 w2 HW0.out (by omega) (by omega)).mono ?_
  rintro e w' ⟨rfl, rfl⟩
  generalize nmod n0 3 = m' at *
  have HM4 := Lib.hid (show 1 ≤ m' + 2 ∧ m' + 2 ≤ 4 ∧ 2 ≤ m' + 2 by omega)
  go_wp2_with (fail)
  refine (all_any (m' + 2) w2).mono ?_
  clear m0 m1
  generalize m' + 2 = m at *
  rintro e w3 ⟨A, c, rfl, hr, hc, hB⟩
  have HR := Lib.hid hr
  clear hr hc
  have T0 := Lib.hid (HB.out.trans (hB.mono HB.out.size))
  clear hB HB
  have HB := T0
  clear T0
  have HAG := Lib.hid (fun (i : Nat) (hi : i < (allR m).length) => all_get (m := m) d0 hi)
  have hpos : 0 < (allR m).length := all_pos HM4.out.1 HM4.out.2.1
  have hle : (allR m).length ≤ 1152 := all_le m
  generalize allR m = l at *
  generalize l.length = n at *
  obtain ⟨b, off, rfl, -⟩ := HR.out.els hpos
  have hn0 : ((n : Int) == 0) = false := by simp; omega
  have i0 := nmod_lo n1 n (by omega)
  have i1 := nmod_hi n1 n (by omega)
  go_wp2_with (fail)
  refine (number_any n1 n w3 HW1.out (by omega) (by omega)).mono ?_
  rintro e w' ⟨rfl, rfl⟩
  obtain ⟨q1, hq1⟩ := Int.eq_ofNat_of_zero_le i0
  rw [hq1] at i1 ⊢
  have hiq1 : q1 < n := by omega
  clear i0 hq1
  have HC1 := Lib.hid (row_at HR.out q1 hiq1)
  obtain ⟨hv, hm⟩ := HAG.out q1 hiq1
  have HV1 := Lib.hid hv
  have HM1 := Lib.hid hm
  clear hv hm
  generalize l.getD q1 d0 = r at *
  obtain ⟨rm, rc, rv, rx, rg⟩ := r
  have HG1 := Lib.hid (heap_alloc_last w3 (.cells (Rt.arr ⟨rm, rc, rv, rx, rg⟩) 27))
  have T0 := Lib.hid (HB.out.alloc HB.out.size (.cells (Rt.arr ⟨rm, rc, rv, rx, rg⟩) 27))
  have T1 := Lib.hid (HR.out.below ((Below.refl w3.heap.size w3).alloc (Nat.le_refl _) (.cells (Rt.arr ⟨rm, rc, rv, rx, rg⟩) 27)))
  clear HB HR
  have HB := T0
  have HR := T1
  clear T0 T1
  have hgb : 0 ≤ rg ∧ rg ≤ 2 := (valid_in HV1.out).2.2.2
  have HSZ := Lib.hid (show (World.alloc w3 (.cells (Rt.arr ⟨rm, rc, rv, rx, rg⟩) 27)).heap.size = w3.heap.size + 1 by simp)
  go_wp2_with (refine wpList_load_mid rfl 27 (.tmp 27) rfl b (off + q1 * 5) rfl [.int .i64 rm, .int .i64 rc, .int .i64 rv, .int .i64 rx, .int .i64 rg] _ HC1.out Tryd.underlying27 rfl sizeRate ?_)
  generalize World.alloc w3 _ = w4 at *
  generalize w3.heap.size = g1 at *
  clear HC1
  clear hgb HR
  have HG2 := Lib.hid (heap_alloc_last w4 (.cells (Rt.arr (Rt.mk rm rc rv rx (rg + 1))) 27))
  rw [HSZ.out] at HG2
  have T1 := Lib.hid ((((Below.refl w4.heap.size w4).alloc (Nat.le_refl _) (.cells (Rt.arr (Rt.mk rm rc rv rx (rg + 1))) 27)).block _ (lt_blk HG1.out)).trans HG1.out)
  have T0 := Lib.hid (HB.out.alloc HB.out.size (.cells (Rt.arr (Rt.mk rm rc rv rx (rg + 1))) 27))
  clear HB HG1 HSZ
  have HB := T0
  have HG1 := T1
  clear T0 T1
  generalize World.alloc w4 _ = w5 at *
  generalize g1 + 1 = g2 at *
  have HG1' := Lib.hid (fun (w' : World) (hB : Below w5.heap.size w5 w') => (hB.block _ (lt_blk HG1.out)).trans HG1.out)
  have HG2' := Lib.hid (fun (w' : World) (hB : Below w5.heap.size w5 w') => (hB.block _ (lt_blk HG2.out)).trans HG2.out)
  have HT' := Lib.hid (fun (w' : World) (hB : Below w5.heap.size w5 w') => HT.out.below (HB.out.trans (hB.mono HB.out.size)))
  have HGO := Lib.hid (fun h => guard_of (r := Rt.mk rm rc rv rx rg) HV1.out (by have h1 := HM1.out; have h2 := HM4.out.2.2; dsimp only at h1 ⊢; omega) h)
  unfold gi1 at HGO
  dsimp only at HGO
  cases hv2 : validR (Rt.mk rm rc rv rx (rg + 1))
  · refine wp_region_held_drew (S := fun w' => Below w5.heap.size w5 w') (by kernel_rfl) (Below.refl _ _).drew (fun hHeld => ?_)
    generalize World.drew w5 = w6 at *
    have HZ6 := Lib.hid hHeld
    refine wpAnyH_take (i := 0) (v := .agg (Rt.arr (Rt.mk rm rc rv rx (rg + 1)))) rfl (by kernel_rfl) (by kernel_rfl) (by kernel_rfl) (fun _ _ _ h => h) (yieldsIf_load_mid (by rfl) 27 (.tmp 10) rfl g2 (0) rfl ((Rt.arr (Rt.mk rm rc rv rx (rg + 1)))).toList _ (fun w' hw' => block_range (HG2'.out w' hw')) Tryd.underlying27 rfl sizeRate) (by assumption) ?_
    try simp only [Act.put, List.getElem_toArray, List.getElem_cons_zero, List.getElem_cons_succ, List.setIfInBounds_toArray, List.set_cons_zero, List.set_cons_succ]
    refine wpAnyH_ready (rs := [1]) (by kernel_rfl) (by simp) ?_
    refine AllReadyH.cons rfl (fun K hK => ?_) AllReadyH.nil
    go_simp
    refine (valid_any (Rt.mk rm rc rv rx (rg + 1)) w6).mono ?_
    rintro e' w7 ⟨rfl, hb⟩
    rw [hv2]
    have HZ7 := Lib.hid (HZ6.out.trans (hb.mono HZ6.out.size))
    clear hb hHeld HZ6
    refine hK.out _ _ HZ7.out (fun hHeld => ?_)
    clear hK K
    try simp only [Act.put, List.getElem_toArray, List.getElem_cons_zero, List.getElem_cons_succ, List.setIfInBounds_toArray, List.set_cons_zero, List.set_cons_succ]
    refine wpAnyH_take (i := 2) (v := ?_) rfl (by kernel_rfl) (by kernel_rfl) (by kernel_rfl) (fun _ _ _ h => h) (Or.inl ⟨by rfl, ?_⟩) (by assumption) ?_
    rotate_left
    · intro w hSw
      clear hSw
      go_simp
      try with_reducible rfl
    try simp only [Act.put, List.getElem_toArray, List.getElem_cons_zero, List.getElem_cons_succ, List.setIfInBounds_toArray, List.set_cons_zero, List.set_cons_succ]
    refine wpAnyH_take (i := 3) (v := undef) rfl (by kernel_rfl) (by kernel_rfl) (by kernel_rfl) (fun _ _ _ h => h) (Or.inr ⟨by rfl, rfl⟩) (by assumption) ?_
    try simp only [Act.put, List.getElem_toArray, List.getElem_cons_zero, List.getElem_cons_succ, List.setIfInBounds_toArray, List.set_cons_zero, List.set_cons_succ]
    refine wpAnyH_take (i := 4) (v := undef) rfl (by kernel_rfl) (by kernel_rfl) (by kernel_rfl) (fun _ _ _ h => h) (Or.inr ⟨by rfl, rfl⟩) (by assumption) ?_
    try simp only [Act.put, List.getElem_toArray, List.getElem_cons_zero, List.getElem_cons_succ, List.setIfInBounds_toArray, List.set_cons_zero, List.set_cons_succ]
    refine wpAnyH_take (i := 5) (v := undef) rfl (by kernel_rfl) (by kernel_rfl) (by kernel_rfl) (fun _ _ _ h => h) (Or.inr ⟨by rfl, rfl⟩) (by assumption) ?_
    try simp only [Act.put, List.getElem_toArray, List.getElem_cons_zero, List.getElem_cons_succ, List.setIfInBounds_toArray, List.set_cons_zero, List.set_cons_succ]
    refine wpAnyH_take (i := 6) (v := undef) rfl (by kernel_rfl) (by kernel_rfl) (by kernel_rfl) (fun _ _ _ h => h) (Or.inr ⟨by rfl, rfl⟩) (by assumption) ?_
    try simp only [Act.put, List.getElem_toArray, List.getElem_cons_zero, List.getElem_cons_succ, List.setIfInBounds_toArray, List.set_cons_zero, List.set_cons_succ]
    refine wpAnyH_take (i := 7) (v := undef) rfl (by kernel_rfl) (by kernel_rfl) (by kernel_rfl) (fun _ _ _ h => h) (Or.inr ⟨by rfl, rfl⟩) (by assumption) ?_
    try simp only [Act.put, List.getElem_toArray, List.getElem_cons_zero, List.getElem_cons_succ, List.setIfInBounds_toArray, List.set_cons_zero, List.set_cons_succ]
    refine wpAnyH_take (i := 8) (v := undef) rfl (by kernel_rfl) (by kernel_rfl) (by kernel_rfl) (fun _ _ _ h => h) (Or.inr ⟨by rfl, rfl⟩) (by assumption) ?_
    try simp only [Act.put, List.getElem_toArray, List.getElem_cons_zero, List.getElem_cons_succ, List.setIfInBounds_toArray, List.set_cons_zero, List.set_cons_succ]
    refine wpAnyH_take (i := 9) (v := undef) rfl (by kernel_rfl) (by kernel_rfl) (by kernel_rfl) (fun _ _ _ h => h) (Or.inr ⟨by rfl, rfl⟩) (by assumption) ?_
    try simp only [Act.put, List.getElem_toArray, List.getElem_cons_zero, List.getElem_cons_succ, List.setIfInBounds_toArray, List.set_cons_zero, List.set_cons_succ]
    refine wpAnyH_take (i := 10) (v := undef) rfl (by kernel_rfl) (by kernel_rfl) (by kernel_rfl) (fun _ _ _ h => h) (Or.inr ⟨by rfl, rfl⟩) (by assumption) ?_
    try simp only [Act.put, List.getElem_toArray, List.getElem_cons_zero, List.getElem_cons_succ, List.setIfInBounds_toArray, List.set_cons_zero, List.set_cons_succ]
    refine wpAnyH_take (i := 11) (v := undef) rfl (by kernel_rfl) (by kernel_rfl) (by kernel_rfl) (fun _ _ _ h => h) (Or.inr ⟨by rfl, rfl⟩) (by assumption) ?_
    try simp only [Act.put, List.getElem_toArray, List.getElem_cons_zero, List.getElem_cons_succ, List.setIfInBounds_toArray, List.set_cons_zero, List.set_cons_succ]
    refine wpAnyH_take (i := 12) (v := undef) rfl (by kernel_rfl) (by kernel_rfl) (by kernel_rfl) (fun _ _ _ h => h) (Or.inr ⟨by rfl, rfl⟩) (by assumption) ?_
    try simp only [Act.put, List.getElem_toArray, List.getElem_cons_zero, List.getElem_cons_succ, List.setIfInBounds_toArray, List.set_cons_zero, List.set_cons_succ]
    refine wpAnyH_take (i := 13) (v := undef) rfl (by kernel_rfl) (by kernel_rfl) (by kernel_rfl) (fun _ _ _ h => h) (Or.inr ⟨by rfl, rfl⟩) (by assumption) ?_
    try simp only [Act.put, List.getElem_toArray, List.getElem_cons_zero, List.getElem_cons_succ, List.setIfInBounds_toArray, List.set_cons_zero, List.set_cons_succ]
    refine wpAnyH_take (i := 14) (v := undef) rfl (by kernel_rfl) (by kernel_rfl) (by kernel_rfl) (fun _ _ _ h => h) (Or.inr ⟨by rfl, rfl⟩) (by assumption) ?_
    try simp only [Act.put, List.getElem_toArray, List.getElem_cons_zero, List.getElem_cons_succ, List.setIfInBounds_toArray, List.set_cons_zero, List.set_cons_succ]
    refine wpAnyH_take (i := 15) (v := undef) rfl (by kernel_rfl) (by kernel_rfl) (by kernel_rfl) (fun _ _ _ h => h) (Or.inr ⟨by rfl, rfl⟩) (by assumption) ?_
    try simp only [Act.put, List.getElem_toArray, List.getElem_cons_zero, List.getElem_cons_succ, List.setIfInBounds_toArray, List.set_cons_zero, List.set_cons_succ]
    refine wpAnyH_take (i := 16) (v := undef) rfl (by kernel_rfl) (by kernel_rfl) (by kernel_rfl) (fun _ _ _ h => h) (Or.inr ⟨by rfl, rfl⟩) (by assumption) ?_
    try simp only [Act.put, List.getElem_toArray, List.getElem_cons_zero, List.getElem_cons_succ, List.setIfInBounds_toArray, List.set_cons_zero, List.set_cons_succ]
    refine wpAnyH_take (i := 17) (v := undef) rfl (by kernel_rfl) (by kernel_rfl) (by kernel_rfl) (fun _ _ _ h => h) (Or.inr ⟨by rfl, rfl⟩) (by assumption) ?_
    try simp only [Act.put, List.getElem_toArray, List.getElem_cons_zero, List.getElem_cons_succ, List.setIfInBounds_toArray, List.set_cons_zero, List.set_cons_succ]
    refine wpAnyH_take (i := 18) (v := undef) rfl (by kernel_rfl) (by kernel_rfl) (by kernel_rfl) (fun _ _ _ h => h) (Or.inr ⟨by rfl, rfl⟩) (by assumption) ?_
    try simp only [Act.put, List.getElem_toArray, List.getElem_cons_zero, List.getElem_cons_succ, List.setIfInBounds_toArray, List.set_cons_zero, List.set_cons_succ]
    refine wpAnyH_take (i := 19) (v := undef) rfl (by kernel_rfl) (by kernel_rfl) (by kernel_rfl) (fun _ _ _ h => h) (Or.inr ⟨by rfl, rfl⟩) (by assumption) ?_
    try simp only [Act.put, List.getElem_toArray, List.getElem_cons_zero, List.getElem_cons_succ, List.setIfInBounds_toArray, List.set_cons_zero, List.set_cons_succ]
    refine wpAnyH_take (i := 20) (v := undef) rfl (by kernel_rfl) (by kernel_rfl) (by kernel_rfl) (fun _ _ _ h => h) (Or.inr ⟨by rfl, rfl⟩) (by assumption) ?_
    try simp only [Act.put, List.getElem_toArray, List.getElem_cons_zero, List.getElem_cons_succ, List.setIfInBounds_toArray, List.set_cons_zero, List.set_cons_succ]
    refine wpAnyH_take (i := 21) (v := undef) rfl (by kernel_rfl) (by kernel_rfl) (by kernel_rfl) (fun _ _ _ h => h) (Or.inr ⟨by rfl, rfl⟩) (by assumption) ?_
    try simp only [Act.put, List.getElem_toArray, List.getElem_cons_zero, List.getElem_cons_succ, List.setIfInBounds_toArray, List.set_cons_zero, List.set_cons_succ]
    refine wpAnyH_take (i := 22) (v := ?_) rfl (by kernel_rfl) (by kernel_rfl) (by kernel_rfl) (fun _ _ _ h => h) (Or.inl ⟨by rfl, ?_⟩) (by assumption) ?_
    rotate_left
    · intro w hSw
      clear hSw
      go_simp
      try with_reducible rfl
    try simp only [Act.put, List.getElem_toArray, List.getElem_cons_zero, List.getElem_cons_succ, List.setIfInBounds_toArray, List.set_cons_zero, List.set_cons_succ]
    refine wpAnyH_done (by kernel_rfl) ?_ _
    try simp only [Act.put, List.getElem_toArray, List.getElem_cons_zero, List.getElem_cons_succ, List.setIfInBounds_toArray, List.set_cons_zero, List.set_cons_succ]
    have HZE := HZ7
    clear HZ7 hHeld hv2
    have HB := Lib.hid (HB.out.trans (HZE.out.mono HB.out.size))
    have HG1 := Lib.hid (HG1'.out _ HZE.out)
    clear HZE HG1' HG2' HT' HGO
    have hx0 := rt_cell (r := Rt.mk rm rc rv rx rg) HG1.out 0
    have hx1 := rt_cell (r := Rt.mk rm rc rv rx rg) HG1.out 1
    have hx2 := rt_cell (r := Rt.mk rm rc rv rx rg) HG1.out 2
    have hx3 := rt_cell (r := Rt.mk rm rc rv rx rg) HG1.out 3
    have hx4 := rt_cell (r := Rt.mk rm rc rv rx rg) HG1.out 4
    dsimp only [Rt.arr] at hx0 hx1 hx2 hx3 hx4
    simp only [List.getElem?_toArray, List.getElem?_cons_zero, List.getElem?_cons_succ] at hx0 hx1 hx2 hx3 hx4
    go_wp2_with (fail)
    clear hx0 hx1 hx2 hx3 hx4
    have v0 := nmod_lo n2 5 (by omega)
    have v1 := nmod_hi n2 5 (by omega)
    refine (number_any n2 5 _ HW2.out (by omega) (by omega)).mono ?_
    rintro e w' ⟨rfl, rfl⟩
    generalize nmod n2 5 = v at *
    rcases (by omega : v = 0 ∨ v = 1 ∨ v = 2 ∨ v = 3 ∨ v = 4) with rfl | rfl | rfl | rfl | rfl
    · clear v0 v1
      have HBAD := Lib.hid (show validR (Rt.mk 9 rc rv rx rg) = false from bad_m (show (4 : Int) < 9 by decide))
      have HG3 := Lib.hid (heap_alloc_last w7 (.cells (Rt.arr (Rt.mk 9 rc rv rx rg)) 27))
      have T0 := Lib.hid (HB.out.alloc HB.out.size (.cells (Rt.arr (Rt.mk 9 rc rv rx rg)) 27))
      clear HB
      have HB := T0
      clear T0
      go_wp2_with (fail)
      generalize World.alloc w7 _ = x1 at *
      generalize w7.heap.size = g3 at *
      refine (valid_any (Rt.mk 9 rc rv rx rg) x1).mono ?_
      rintro e x2 ⟨rfl, hB⟩
      rw [HBAD.out]
      have T0 := Lib.hid (HB.out.trans (hB.mono HB.out.size))
      have T1 := Lib.hid ((hB.block _ (lt_blk HG3.out)).trans HG3.out)
      clear hB HB HG3
      have HB := T0
      have HG3 := T1
      clear T0 T1
      have hx0 := rt_cell (r := Rt.mk 9 rc rv rx rg) HG3.out 0
      have hx1 := rt_cell (r := Rt.mk 9 rc rv rx rg) HG3.out 1
      have hx2 := rt_cell (r := Rt.mk 9 rc rv rx rg) HG3.out 2
      have hx3 := rt_cell (r := Rt.mk 9 rc rv rx rg) HG3.out 3
      have hx4 := rt_cell (r := Rt.mk 9 rc rv rx rg) HG3.out 4
      dsimp only [Rt.arr] at hx0 hx1 hx2 hx3 hx4
      simp only [List.getElem?_toArray, List.getElem?_cons_zero, List.getElem?_cons_succ] at hx0 hx1 hx2 hx3 hx4
      go_wp2_with (fail)
      clear hx0 hx1 hx2 hx3 hx4
      refine (bits_any (Rt.mk 9 rc rv rx rg) x2 (HT.out.below HB.out)).mono ?_
      rintro e x3 ⟨rfl, hB⟩
      rw [bits_no HBAD.out]
      have T0 := Lib.hid (HB.out.trans (hB.mono HB.out.size))
      have T1 := Lib.hid ((hB.block _ (lt_blk HG3.out)).trans HG3.out)
      clear hB HB HG3
      have HB := T0
      have HG3 := T1
      clear T0 T1
      have hx0 := rt_cell (r := Rt.mk 9 rc rv rx rg) HG3.out 0
      have hx1 := rt_cell (r := Rt.mk 9 rc rv rx rg) HG3.out 1
      have hx2 := rt_cell (r := Rt.mk 9 rc rv rx rg) HG3.out 2
      have hx3 := rt_cell (r := Rt.mk 9 rc rv rx rg) HG3.out 3
      have hx4 := rt_cell (r := Rt.mk 9 rc rv rx rg) HG3.out 4
      dsimp only [Rt.arr] at hx0 hx1 hx2 hx3 hx4
      simp only [List.getElem?_toArray, List.getElem?_cons_zero, List.getElem?_cons_succ] at hx0 hx1 hx2 hx3 hx4
      go_wp2_with (fail)
      clear hx0 hx1 hx2 hx3 hx4
      refine (sym_any (Rt.mk 9 rc rv rx rg) x3).mono ?_
      rintro e x4 ⟨rfl, hB⟩
      rw [sym_no HBAD.out]
      have T0 := Lib.hid (HB.out.trans (hB.mono HB.out.size))
      have T1 := Lib.hid ((hB.block _ (lt_blk HG3.out)).trans HG3.out)
      clear hB HB HG3
      have HB := T0
      have HG3 := T1
      clear T0 T1
      have hx0 := rt_cell (r := Rt.mk 9 rc rv rx rg) HG3.out 0
      have hx1 := rt_cell (r := Rt.mk 9 rc rv rx rg) HG3.out 1
      have hx2 := rt_cell (r := Rt.mk 9 rc rv rx rg) HG3.out 2
      have hx3 := rt_cell (r := Rt.mk 9 rc rv rx rg) HG3.out 3
      have hx4 := rt_cell (r := Rt.mk 9 rc rv rx rg) HG3.out 4
      dsimp only [Rt.arr] at hx0 hx1 hx2 hx3 hx4
      simp only [List.getElem?_toArray, List.getElem?_cons_zero, List.getElem?_cons_succ] at hx0 hx1 hx2 hx3 hx4
      go_wp2_with (fail)
      clear hx0 hx1 hx2 hx3 hx4
      refine (pre_any (Rt.mk 9 rc rv rx rg) x4).mono ?_
      rintro e x5 ⟨rfl, hB⟩
      rw [pre_no HBAD.out]
      have T0 := Lib.hid (HB.out.trans (hB.mono HB.out.size))
      have T1 := Lib.hid ((hB.block _ (lt_blk HG3.out)).trans HG3.out)
      clear hB HB HG3
      have HB := T0
      have HG3 := T1
      clear T0 T1
      go_wp2_with (fail)
      refine (valid_any ⟨0, 0, 0, 0, 0⟩ x5).mono ?_
      rintro e x6 ⟨rfl, hB⟩
      rw [bad_0]
      have T0 := Lib.hid (HB.out.trans (hB.mono HB.out.size))
      clear hB HB
      have HB := T0
      clear T0
      go_wp2_with (fail)
      refine (all_any 5 x6).mono ?_
      rintro e x7 ⟨A', c', rfl, hr, hc, hB⟩
      rw [none_5]
      clear hr hc
      have T0 := Lib.hid (HB.out.trans (hB.mono HB.out.size))
      clear hB HB
      have HB := T0
      clear T0
      go_wp2
      go_ret
      exact ⟨rfl, HB.out⟩
    · clear v0 v1
      have HBAD := Lib.hid (show validR (Rt.mk rm 12 rv rx rg) = false from bad_c (show (11 : Int) < 12 by decide))
      have HG3 := Lib.hid (heap_alloc_last w7 (.cells (Rt.arr (Rt.mk rm 12 rv rx rg)) 27))
      have T0 := Lib.hid (HB.out.alloc HB.out.size (.cells (Rt.arr (Rt.mk rm 12 rv rx rg)) 27))
      clear HB
      have HB := T0
      clear T0
      go_wp2_with (fail)
      generalize World.alloc w7 _ = x1 at *
      generalize w7.heap.size = g3 at *
      refine (valid_any (Rt.mk rm 12 rv rx rg) x1).mono ?_
      rintro e x2 ⟨rfl, hB⟩
      rw [HBAD.out]
      have T0 := Lib.hid (HB.out.trans (hB.mono HB.out.size))
      have T1 := Lib.hid ((hB.block _ (lt_blk HG3.out)).trans HG3.out)
      clear hB HB HG3
      have HB := T0
      have HG3 := T1
      clear T0 T1
      have hx0 := rt_cell (r := Rt.mk rm 12 rv rx rg) HG3.out 0
      have hx1 := rt_cell (r := Rt.mk rm 12 rv rx rg) HG3.out 1
      have hx2 := rt_cell (r := Rt.mk rm 12 rv rx rg) HG3.out 2
      have hx3 := rt_cell (r := Rt.mk rm 12 rv rx rg) HG3.out 3
      have hx4 := rt_cell (r := Rt.mk rm 12 rv rx rg) HG3.out 4
      dsimp only [Rt.arr] at hx0 hx1 hx2 hx3 hx4
      simp only [List.getElem?_toArray, List.getElem?_cons_zero, List.getElem?_cons_succ] at hx0 hx1 hx2 hx3 hx4
      go_wp2_with (fail)
      clear hx0 hx1 hx2 hx3 hx4
      refine (bits_any (Rt.mk rm 12 rv rx rg) x2 (HT.out.below HB.out)).mono ?_
      rintro e x3 ⟨rfl, hB⟩
      rw [bits_no HBAD.out]
      have T0 := Lib.hid (HB.out.trans (hB.mono HB.out.size))
      have T1 := Lib.hid ((hB.block _ (lt_blk HG3.out)).trans HG3.out)
      clear hB HB HG3
      have HB := T0
      have HG3 := T1
      clear T0 T1
      have hx0 := rt_cell (r := Rt.mk rm 12 rv rx rg) HG3.out 0
      have hx1 := rt_cell (r := Rt.mk rm 12 rv rx rg) HG3.out 1
      have hx2 := rt_cell (r := Rt.mk rm 12 rv rx rg) HG3.out 2
      have hx3 := rt_cell (r := Rt.mk rm 12 rv rx rg) HG3.out 3
      have hx4 := rt_cell (r := Rt.mk rm 12 rv rx rg) HG3.out 4
      dsimp only [Rt.arr] at hx0 hx1 hx2 hx3 hx4
      simp only [List.getElem?_toArray, List.getElem?_cons_zero, List.getElem?_cons_succ] at hx0 hx1 hx2 hx3 hx4
      go_wp2_with (fail)
      clear hx0 hx1 hx2 hx3 hx4
      refine (sym_any (Rt.mk rm 12 rv rx rg) x3).mono ?_
      rintro e x4 ⟨rfl, hB⟩
      rw [sym_no HBAD.out]
      have T0 := Lib.hid (HB.out.trans (hB.mono HB.out.size))
      have T1 := Lib.hid ((hB.block _ (lt_blk HG3.out)).trans HG3.out)
      clear hB HB HG3
      have HB := T0
      have HG3 := T1
      clear T0 T1
      have hx0 := rt_cell (r := Rt.mk rm 12 rv rx rg) HG3.out 0
      have hx1 := rt_cell (r := Rt.mk rm 12 rv rx rg) HG3.out 1
      have hx2 := rt_cell (r := Rt.mk rm 12 rv rx rg) HG3.out 2
      have hx3 := rt_cell (r := Rt.mk rm 12 rv rx rg) HG3.out 3
      have hx4 := rt_cell (r := Rt.mk rm 12 rv rx rg) HG3.out 4
      dsimp only [Rt.arr] at hx0 hx1 hx2 hx3 hx4
      simp only [List.getElem?_toArray, List.getElem?_cons_zero, List.getElem?_cons_succ] at hx0 hx1 hx2 hx3 hx4
      go_wp2_with (fail)
      clear hx0 hx1 hx2 hx3 hx4
      refine (pre_any (Rt.mk rm 12 rv rx rg) x4).mono ?_
      rintro e x5 ⟨rfl, hB⟩
      rw [pre_no HBAD.out]
      have T0 := Lib.hid (HB.out.trans (hB.mono HB.out.size))
      have T1 := Lib.hid ((hB.block _ (lt_blk HG3.out)).trans HG3.out)
      clear hB HB HG3
      have HB := T0
      have HG3 := T1
      clear T0 T1
      go_wp2_with (fail)
      refine (valid_any ⟨0, 0, 0, 0, 0⟩ x5).mono ?_
      rintro e x6 ⟨rfl, hB⟩
      rw [bad_0]
      have T0 := Lib.hid (HB.out.trans (hB.mono HB.out.size))
      clear hB HB
      have HB := T0
      clear T0
      go_wp2_with (fail)
      refine (all_any 5 x6).mono ?_
      rintro e x7 ⟨A', c', rfl, hr, hc, hB⟩
      rw [none_5]
      clear hr hc
      have T0 := Lib.hid (HB.out.trans (hB.mono HB.out.size))
      clear hB HB
      have HB := T0
      clear T0
      go_wp2
      go_ret
      exact ⟨rfl, HB.out⟩
    · clear v0 v1
      have HBAD := Lib.hid (show validR (Rt.mk rm rc 9 rx rg) = false from bad_s (show (8 : Int) < 9 by decide))
      have HG3 := Lib.hid (heap_alloc_last w7 (.cells (Rt.arr (Rt.mk rm rc 9 rx rg)) 27))
      have T0 := Lib.hid (HB.out.alloc HB.out.size (.cells (Rt.arr (Rt.mk rm rc 9 rx rg)) 27))
      clear HB
      have HB := T0
      clear T0
      go_wp2_with (fail)
      generalize World.alloc w7 _ = x1 at *
      generalize w7.heap.size = g3 at *
      refine (valid_any (Rt.mk rm rc 9 rx rg) x1).mono ?_
      rintro e x2 ⟨rfl, hB⟩
      rw [HBAD.out]
      have T0 := Lib.hid (HB.out.trans (hB.mono HB.out.size))
      have T1 := Lib.hid ((hB.block _ (lt_blk HG3.out)).trans HG3.out)
      clear hB HB HG3
      have HB := T0
      have HG3 := T1
      clear T0 T1
      have hx0 := rt_cell (r := Rt.mk rm rc 9 rx rg) HG3.out 0
      have hx1 := rt_cell (r := Rt.mk rm rc 9 rx rg) HG3.out 1
      have hx2 := rt_cell (r := Rt.mk rm rc 9 rx rg) HG3.out 2
      have hx3 := rt_cell (r := Rt.mk rm rc 9 rx rg) HG3.out 3
      have hx4 := rt_cell (r := Rt.mk rm rc 9 rx rg) HG3.out 4
      dsimp only [Rt.arr] at hx0 hx1 hx2 hx3 hx4
      simp only [List.getElem?_toArray, List.getElem?_cons_zero, List.getElem?_cons_succ] at hx0 hx1 hx2 hx3 hx4
      go_wp2_with (fail)
      clear hx0 hx1 hx2 hx3 hx4
      refine (bits_any (Rt.mk rm rc 9 rx rg) x2 (HT.out.below HB.out)).mono ?_
      rintro e x3 ⟨rfl, hB⟩
      rw [bits_no HBAD.out]
      have T0 := Lib.hid (HB.out.trans (hB.mono HB.out.size))
      have T1 := Lib.hid ((hB.block _ (lt_blk HG3.out)).trans HG3.out)
      clear hB HB HG3
      have HB := T0
      have HG3 := T1
      clear T0 T1
      have hx0 := rt_cell (r := Rt.mk rm rc 9 rx rg) HG3.out 0
      have hx1 := rt_cell (r := Rt.mk rm rc 9 rx rg) HG3.out 1
      have hx2 := rt_cell (r := Rt.mk rm rc 9 rx rg) HG3.out 2
      have hx3 := rt_cell (r := Rt.mk rm rc 9 rx rg) HG3.out 3
      have hx4 := rt_cell (r := Rt.mk rm rc 9 rx rg) HG3.out 4
      dsimp only [Rt.arr] at hx0 hx1 hx2 hx3 hx4
      simp only [List.getElem?_toArray, List.getElem?_cons_zero, List.getElem?_cons_succ] at hx0 hx1 hx2 hx3 hx4
      go_wp2_with (fail)
      clear hx0 hx1 hx2 hx3 hx4
      refine (sym_any (Rt.mk rm rc 9 rx rg) x3).mono ?_
      rintro e x4 ⟨rfl, hB⟩
      rw [sym_no HBAD.out]
      have T0 := Lib.hid (HB.out.trans (hB.mono HB.out.size))
      have T1 := Lib.hid ((hB.block _ (lt_blk HG3.out)).trans HG3.out)
      clear hB HB HG3
      have HB := T0
      have HG3 := T1
      clear T0 T1
      have hx0 := rt_cell (r := Rt.mk rm rc 9 rx rg) HG3.out 0
      have hx1 := rt_cell (r := Rt.mk rm rc 9 rx rg) HG3.out 1
      have hx2 := rt_cell (r := Rt.mk rm rc 9 rx rg) HG3.out 2
      have hx3 := rt_cell (r := Rt.mk rm rc 9 rx rg) HG3.out 3
      have hx4 := rt_cell (r := Rt.mk rm rc 9 rx rg) HG3.out 4
      dsimp only [Rt.arr] at hx0 hx1 hx2 hx3 hx4
      simp only [List.getElem?_toArray, List.getElem?_cons_zero, List.getElem?_cons_succ] at hx0 hx1 hx2 hx3 hx4
      go_wp2_with (fail)
      clear hx0 hx1 hx2 hx3 hx4
      refine (pre_any (Rt.mk rm rc 9 rx rg) x4).mono ?_
      rintro e x5 ⟨rfl, hB⟩
      rw [pre_no HBAD.out]
      have T0 := Lib.hid (HB.out.trans (hB.mono HB.out.size))
      have T1 := Lib.hid ((hB.block _ (lt_blk HG3.out)).trans HG3.out)
      clear hB HB HG3
      have HB := T0
      have HG3 := T1
      clear T0 T1
      go_wp2_with (fail)
      refine (valid_any ⟨0, 0, 0, 0, 0⟩ x5).mono ?_
      rintro e x6 ⟨rfl, hB⟩
      rw [bad_0]
      have T0 := Lib.hid (HB.out.trans (hB.mono HB.out.size))
      clear hB HB
      have HB := T0
      clear T0
      go_wp2_with (fail)
      refine (all_any 5 x6).mono ?_
      rintro e x7 ⟨A', c', rfl, hr, hc, hB⟩
      rw [none_5]
      clear hr hc
      have T0 := Lib.hid (HB.out.trans (hB.mono HB.out.size))
      clear hB HB
      have HB := T0
      clear T0
      go_wp2
      go_ret
      exact ⟨rfl, HB.out⟩
    · clear v0 v1
      have HBAD := Lib.hid (show validR (Rt.mk rm rc rv 25 rg) = false from bad_w (show wid 25 < 0 by decide))
      have HG3 := Lib.hid (heap_alloc_last w7 (.cells (Rt.arr (Rt.mk rm rc rv 25 rg)) 27))
      have T0 := Lib.hid (HB.out.alloc HB.out.size (.cells (Rt.arr (Rt.mk rm rc rv 25 rg)) 27))
      clear HB
      have HB := T0
      clear T0
      go_wp2_with (fail)
      generalize World.alloc w7 _ = x1 at *
      generalize w7.heap.size = g3 at *
      refine (valid_any (Rt.mk rm rc rv 25 rg) x1).mono ?_
      rintro e x2 ⟨rfl, hB⟩
      rw [HBAD.out]
      have T0 := Lib.hid (HB.out.trans (hB.mono HB.out.size))
      have T1 := Lib.hid ((hB.block _ (lt_blk HG3.out)).trans HG3.out)
      clear hB HB HG3
      have HB := T0
      have HG3 := T1
      clear T0 T1
      have hx0 := rt_cell (r := Rt.mk rm rc rv 25 rg) HG3.out 0
      have hx1 := rt_cell (r := Rt.mk rm rc rv 25 rg) HG3.out 1
      have hx2 := rt_cell (r := Rt.mk rm rc rv 25 rg) HG3.out 2
      have hx3 := rt_cell (r := Rt.mk rm rc rv 25 rg) HG3.out 3
      have hx4 := rt_cell (r := Rt.mk rm rc rv 25 rg) HG3.out 4
      dsimp only [Rt.arr] at hx0 hx1 hx2 hx3 hx4
      simp only [List.getElem?_toArray, List.getElem?_cons_zero, List.getElem?_cons_succ] at hx0 hx1 hx2 hx3 hx4
      go_wp2_with (fail)
      clear hx0 hx1 hx2 hx3 hx4
      refine (bits_any (Rt.mk rm rc rv 25 rg) x2 (HT.out.below HB.out)).mono ?_
      rintro e x3 ⟨rfl, hB⟩
      rw [bits_no HBAD.out]
      have T0 := Lib.hid (HB.out.trans (hB.mono HB.out.size))
      have T1 := Lib.hid ((hB.block _ (lt_blk HG3.out)).trans HG3.out)
      clear hB HB HG3
      have HB := T0
      have HG3 := T1
      clear T0 T1
      have hx0 := rt_cell (r := Rt.mk rm rc rv 25 rg) HG3.out 0
      have hx1 := rt_cell (r := Rt.mk rm rc rv 25 rg) HG3.out 1
      have hx2 := rt_cell (r := Rt.mk rm rc rv 25 rg) HG3.out 2
      have hx3 := rt_cell (r := Rt.mk rm rc rv 25 rg) HG3.out 3
      have hx4 := rt_cell (r := Rt.mk rm rc rv 25 rg) HG3.out 4
      dsimp only [Rt.arr] at hx0 hx1 hx2 hx3 hx4
      simp only [List.getElem?_toArray, List.getElem?_cons_zero, List.getElem?_cons_succ] at hx0 hx1 hx2 hx3 hx4
      go_wp2_with (fail)
      clear hx0 hx1 hx2 hx3 hx4
      refine (sym_any (Rt.mk rm rc rv 25 rg) x3).mono ?_
      rintro e x4 ⟨rfl, hB⟩
      rw [sym_no HBAD.out]
      have T0 := Lib.hid (HB.out.trans (hB.mono HB.out.size))
      have T1 := Lib.hid ((hB.block _ (lt_blk HG3.out)).trans HG3.out)
      clear hB HB HG3
      have HB := T0
      have HG3 := T1
      clear T0 T1
      have hx0 := rt_cell (r := Rt.mk rm rc rv 25 rg) HG3.out 0
      have hx1 := rt_cell (r := Rt.mk rm rc rv 25 rg) HG3.out 1
      have hx2 := rt_cell (r := Rt.mk rm rc rv 25 rg) HG3.out 2
      have hx3 := rt_cell (r := Rt.mk rm rc rv 25 rg) HG3.out 3
      have hx4 := rt_cell (r := Rt.mk rm rc rv 25 rg) HG3.out 4
      dsimp only [Rt.arr] at hx0 hx1 hx2 hx3 hx4
      simp only [List.getElem?_toArray, List.getElem?_cons_zero, List.getElem?_cons_succ] at hx0 hx1 hx2 hx3 hx4
      go_wp2_with (fail)
      clear hx0 hx1 hx2 hx3 hx4
      refine (pre_any (Rt.mk rm rc rv 25 rg) x4).mono ?_
      rintro e x5 ⟨rfl, hB⟩
      rw [pre_no HBAD.out]
      have T0 := Lib.hid (HB.out.trans (hB.mono HB.out.size))
      have T1 := Lib.hid ((hB.block _ (lt_blk HG3.out)).trans HG3.out)
      clear hB HB HG3
      have HB := T0
      have HG3 := T1
      clear T0 T1
      go_wp2_with (fail)
      refine (valid_any ⟨0, 0, 0, 0, 0⟩ x5).mono ?_
      rintro e x6 ⟨rfl, hB⟩
      rw [bad_0]
      have T0 := Lib.hid (HB.out.trans (hB.mono HB.out.size))
      clear hB HB
      have HB := T0
      clear T0
      go_wp2_with (fail)
      refine (all_any 5 x6).mono ?_
      rintro e x7 ⟨A', c', rfl, hr, hc, hB⟩
      rw [none_5]
      clear hr hc
      have T0 := Lib.hid (HB.out.trans (hB.mono HB.out.size))
      clear hB HB
      have HB := T0
      clear T0
      go_wp2
      go_ret
      exact ⟨rfl, HB.out⟩
    · clear v0 v1
      have HBAD := Lib.hid (show validR (Rt.mk rm rc rv rx 3) = false from bad_g (show (2 : Int) < 3 by decide))
      have HG3 := Lib.hid (heap_alloc_last w7 (.cells (Rt.arr (Rt.mk rm rc rv rx 3)) 27))
      have T0 := Lib.hid (HB.out.alloc HB.out.size (.cells (Rt.arr (Rt.mk rm rc rv rx 3)) 27))
      clear HB
      have HB := T0
      clear T0
      go_wp2_with (fail)
      generalize World.alloc w7 _ = x1 at *
      generalize w7.heap.size = g3 at *
      refine (valid_any (Rt.mk rm rc rv rx 3) x1).mono ?_
      rintro e x2 ⟨rfl, hB⟩
      rw [HBAD.out]
      have T0 := Lib.hid (HB.out.trans (hB.mono HB.out.size))
      have T1 := Lib.hid ((hB.block _ (lt_blk HG3.out)).trans HG3.out)
      clear hB HB HG3
      have HB := T0
      have HG3 := T1
      clear T0 T1
      have hx0 := rt_cell (r := Rt.mk rm rc rv rx 3) HG3.out 0
      have hx1 := rt_cell (r := Rt.mk rm rc rv rx 3) HG3.out 1
      have hx2 := rt_cell (r := Rt.mk rm rc rv rx 3) HG3.out 2
      have hx3 := rt_cell (r := Rt.mk rm rc rv rx 3) HG3.out 3
      have hx4 := rt_cell (r := Rt.mk rm rc rv rx 3) HG3.out 4
      dsimp only [Rt.arr] at hx0 hx1 hx2 hx3 hx4
      simp only [List.getElem?_toArray, List.getElem?_cons_zero, List.getElem?_cons_succ] at hx0 hx1 hx2 hx3 hx4
      go_wp2_with (fail)
      clear hx0 hx1 hx2 hx3 hx4
      refine (bits_any (Rt.mk rm rc rv rx 3) x2 (HT.out.below HB.out)).mono ?_
      rintro e x3 ⟨rfl, hB⟩
      rw [bits_no HBAD.out]
      have T0 := Lib.hid (HB.out.trans (hB.mono HB.out.size))
      have T1 := Lib.hid ((hB.block _ (lt_blk HG3.out)).trans HG3.out)
      clear hB HB HG3
      have HB := T0
      have HG3 := T1
      clear T0 T1
      have hx0 := rt_cell (r := Rt.mk rm rc rv rx 3) HG3.out 0
      have hx1 := rt_cell (r := Rt.mk rm rc rv rx 3) HG3.out 1
      have hx2 := rt_cell (r := Rt.mk rm rc rv rx 3) HG3.out 2
      have hx3 := rt_cell (r := Rt.mk rm rc rv rx 3) HG3.out 3
      have hx4 := rt_cell (r := Rt.mk rm rc rv rx 3) HG3.out 4
      dsimp only [Rt.arr] at hx0 hx1 hx2 hx3 hx4
      simp only [List.getElem?_toArray, List.getElem?_cons_zero, List.getElem?_cons_succ] at hx0 hx1 hx2 hx3 hx4
      go_wp2_with (fail)
      clear hx0 hx1 hx2 hx3 hx4
      refine (sym_any (Rt.mk rm rc rv rx 3) x3).mono ?_
      rintro e x4 ⟨rfl, hB⟩
      rw [sym_no HBAD.out]
      have T0 := Lib.hid (HB.out.trans (hB.mono HB.out.size))
      have T1 := Lib.hid ((hB.block _ (lt_blk HG3.out)).trans HG3.out)
      clear hB HB HG3
      have HB := T0
      have HG3 := T1
      clear T0 T1
      have hx0 := rt_cell (r := Rt.mk rm rc rv rx 3) HG3.out 0
      have hx1 := rt_cell (r := Rt.mk rm rc rv rx 3) HG3.out 1
      have hx2 := rt_cell (r := Rt.mk rm rc rv rx 3) HG3.out 2
      have hx3 := rt_cell (r := Rt.mk rm rc rv rx 3) HG3.out 3
      have hx4 := rt_cell (r := Rt.mk rm rc rv rx 3) HG3.out 4
      dsimp only [Rt.arr] at hx0 hx1 hx2 hx3 hx4
      simp only [List.getElem?_toArray, List.getElem?_cons_zero, List.getElem?_cons_succ] at hx0 hx1 hx2 hx3 hx4
      go_wp2_with (fail)
      clear hx0 hx1 hx2 hx3 hx4
      refine (pre_any (Rt.mk rm rc rv rx 3) x4).mono ?_
      rintro e x5 ⟨rfl, hB⟩
      rw [pre_no HBAD.out]
      have T0 := Lib.hid (HB.out.trans (hB.mono HB.out.size))
      have T1 := Lib.hid ((hB.block _ (lt_blk HG3.out)).trans HG3.out)
      clear hB HB HG3
      have HB := T0
      have HG3 := T1
      clear T0 T1
      go_wp2_with (fail)
      refine (valid_any ⟨0, 0, 0, 0, 0⟩ x5).mono ?_
      rintro e x6 ⟨rfl, hB⟩
      rw [bad_0]
      have T0 := Lib.hid (HB.out.trans (hB.mono HB.out.size))
      clear hB HB
      have HB := T0
      clear T0
      go_wp2_with (fail)
      refine (all_any 5 x6).mono ?_
      rintro e x7 ⟨A', c', rfl, hr, hc, hB⟩
      rw [none_5]
      clear hr hc
      have T0 := Lib.hid (HB.out.trans (hB.mono HB.out.size))
      clear hB HB
      have HB := T0
      clear T0
      go_wp2
      go_ret
      exact ⟨rfl, HB.out⟩
  obtain ⟨s1, s2, s3⟩ := HGO.out hv2
  have HGO2 := Lib.hid (And.intro s2 s3)
  have s4 : decide (symR (Rt.mk rm rc rv rx rg) ≤ symR (Rt.mk rm rc rv rx (rg + 1))) = false := by simp; omega
  clear s1 s2 s3
  refine wp_region_held_drew (S := fun w' => Below w5.heap.size w5 w') (by kernel_rfl) (Below.refl _ _).drew (fun hHeld => ?_)
  generalize World.drew w5 = w6 at *
  have HZ6 := Lib.hid hHeld
  refine wpAnyH_take (i := 0) (v := .agg (Rt.arr (Rt.mk rm rc rv rx (rg + 1)))) rfl (by kernel_rfl) (by kernel_rfl) (by kernel_rfl) (fun _ _ _ h => h) (yieldsIf_load_mid (by rfl) 27 (.tmp 10) rfl g2 (0) rfl ((Rt.arr (Rt.mk rm rc rv rx (rg + 1)))).toList _ (fun w' hw' => block_range (HG2'.out w' hw')) Tryd.underlying27 rfl sizeRate) (by assumption) ?_
  try simp only [Act.put, List.getElem_toArray, List.getElem_cons_zero, List.getElem_cons_succ, List.setIfInBounds_toArray, List.set_cons_zero, List.set_cons_succ]
  refine wpAnyH_ready (rs := [1]) (by kernel_rfl) (by simp) ?_
  refine AllReadyH.cons rfl (fun K hK => ?_) AllReadyH.nil
  go_simp
  refine (valid_any (Rt.mk rm rc rv rx (rg + 1)) w6).mono ?_
  rintro e' w7 ⟨rfl, hb⟩
  rw [hv2]
  have HZ7 := Lib.hid (HZ6.out.trans (hb.mono HZ6.out.size))
  clear hb hHeld HZ6
  refine hK.out _ _ HZ7.out (fun hHeld => ?_)
  clear hK K
  try simp only [Act.put, List.getElem_toArray, List.getElem_cons_zero, List.getElem_cons_succ, List.setIfInBounds_toArray, List.set_cons_zero, List.set_cons_succ]
  refine wpAnyH_take (i := 2) (v := ?_) rfl (by kernel_rfl) (by kernel_rfl) (by kernel_rfl) (fun _ _ _ h => h) (Or.inl ⟨by rfl, ?_⟩) (by assumption) ?_
  rotate_left
  · intro w hSw
    clear hSw
    go_simp
    try with_reducible rfl
  try simp only [Act.put, List.getElem_toArray, List.getElem_cons_zero, List.getElem_cons_succ, List.setIfInBounds_toArray, List.set_cons_zero, List.set_cons_succ]
  refine wpAnyH_take (i := 3) (v := .agg (Rt.arr (Rt.mk rm rc rv rx (rg + 1)))) rfl (by kernel_rfl) (by kernel_rfl) (by kernel_rfl) (fun _ _ _ h => h) (yieldsIf_load_mid (by rfl) 27 (.tmp 10) rfl g2 (0) rfl ((Rt.arr (Rt.mk rm rc rv rx (rg + 1)))).toList _ (fun w' hw' => block_range (HG2'.out w' hw')) Tryd.underlying27 rfl sizeRate) (by assumption) ?_
  try simp only [Act.put, List.getElem_toArray, List.getElem_cons_zero, List.getElem_cons_succ, List.setIfInBounds_toArray, List.set_cons_zero, List.set_cons_succ]
  refine wpAnyH_take (i := 5) (v := .agg (Rt.arr (Rt.mk rm rc rv rx rg))) rfl (by kernel_rfl) (by kernel_rfl) (by kernel_rfl) (fun _ _ _ h => h) (yieldsIf_load_mid (by rfl) 27 (.tmp 9) rfl g1 (0) rfl ((Rt.arr (Rt.mk rm rc rv rx rg))).toList _ (fun w' hw' => block_range (HG1'.out w' hw')) Tryd.underlying27 rfl sizeRate) (by assumption) ?_
  try simp only [Act.put, List.getElem_toArray, List.getElem_cons_zero, List.getElem_cons_succ, List.setIfInBounds_toArray, List.set_cons_zero, List.set_cons_succ]
  refine wpAnyH_ready (rs := [4]) (by kernel_rfl) (by simp) ?_
  refine AllReadyH.cons rfl (fun K hK => ?_) AllReadyH.nil
  go_simp
  refine (sym_any (Rt.mk rm rc rv rx (rg + 1)) w7).mono ?_
  rintro e' w8 ⟨rfl, hb⟩
  have HZ8 := Lib.hid (HZ7.out.trans (hb.mono HZ7.out.size))
  clear hb hHeld HZ7
  refine hK.out _ _ HZ8.out (fun hHeld => ?_)
  clear hK K
  try simp only [Act.put, List.getElem_toArray, List.getElem_cons_zero, List.getElem_cons_succ, List.setIfInBounds_toArray, List.set_cons_zero, List.set_cons_succ]
  refine wpAnyH_ready (rs := [6]) (by kernel_rfl) (by simp) ?_
  refine AllReadyH.cons rfl (fun K hK => ?_) AllReadyH.nil
  go_simp
  refine (sym_any (Rt.mk rm rc rv rx rg) w8).mono ?_
  rintro e' w9 ⟨rfl, hb⟩
  have HZ9 := Lib.hid (HZ8.out.trans (hb.mono HZ8.out.size))
  clear hb hHeld HZ8
  refine hK.out _ _ HZ9.out (fun hHeld => ?_)
  clear hK K
  try simp only [Act.put, List.getElem_toArray, List.getElem_cons_zero, List.getElem_cons_succ, List.setIfInBounds_toArray, List.set_cons_zero, List.set_cons_succ]
  refine wpAnyH_take (i := 7) (v := ?_) rfl (by kernel_rfl) (by kernel_rfl) (by kernel_rfl) (fun _ _ _ h => h) (Or.inl ⟨by rfl, ?_⟩) (by assumption) ?_
  rotate_left
  · intro w hSw
    clear hSw
    go_simp
    try with_reducible rfl
  try simp only [Act.put, List.getElem_toArray, List.getElem_cons_zero, List.getElem_cons_succ, List.setIfInBounds_toArray, List.set_cons_zero, List.set_cons_succ]
  refine wpAnyH_take (i := 8) (v := ?_) rfl (by kernel_rfl) (by kernel_rfl) (by kernel_rfl) (fun _ _ _ h => h) (Or.inl ⟨by rfl, ?_⟩) (by assumption) ?_
  rotate_left
  · intro w hSw
    clear hSw
    go_simp
    try with_reducible rfl
  try simp only [Act.put, List.getElem_toArray, List.getElem_cons_zero, List.getElem_cons_succ, List.setIfInBounds_toArray, List.set_cons_zero, List.set_cons_succ]
  refine wpAnyH_take (i := 9) (v := .agg (Rt.arr (Rt.mk rm rc rv rx (rg + 1)))) rfl (by kernel_rfl) (by kernel_rfl) (by kernel_rfl) (fun _ _ _ h => h) (yieldsIf_load_mid (by rfl) 27 (.tmp 10) rfl g2 (0) rfl ((Rt.arr (Rt.mk rm rc rv rx (rg + 1)))).toList _ (fun w' hw' => block_range (HG2'.out w' hw')) Tryd.underlying27 rfl sizeRate) (by assumption) ?_
  try simp only [Act.put, List.getElem_toArray, List.getElem_cons_zero, List.getElem_cons_succ, List.setIfInBounds_toArray, List.set_cons_zero, List.set_cons_succ]
  refine wpAnyH_take (i := 11) (v := .agg (Rt.arr (Rt.mk rm rc rv rx rg))) rfl (by kernel_rfl) (by kernel_rfl) (by kernel_rfl) (fun _ _ _ h => h) (yieldsIf_load_mid (by rfl) 27 (.tmp 9) rfl g1 (0) rfl ((Rt.arr (Rt.mk rm rc rv rx rg))).toList _ (fun w' hw' => block_range (HG1'.out w' hw')) Tryd.underlying27 rfl sizeRate) (by assumption) ?_
  try simp only [Act.put, List.getElem_toArray, List.getElem_cons_zero, List.getElem_cons_succ, List.setIfInBounds_toArray, List.set_cons_zero, List.set_cons_succ]
  refine wpAnyH_ready (rs := [10]) (by kernel_rfl) (by simp) ?_
  refine AllReadyH.cons rfl (fun K hK => ?_) AllReadyH.nil
  go_simp
  refine (bits_any (Rt.mk rm rc rv rx (rg + 1)) w9 (HT'.out _ HZ9.out)).mono ?_
  rintro e' w10 ⟨rfl, hb⟩
  have HZ10 := Lib.hid (HZ9.out.trans (hb.mono HZ9.out.size))
  clear hb hHeld HZ9
  refine hK.out _ _ HZ10.out (fun hHeld => ?_)
  clear hK K
  try simp only [Act.put, List.getElem_toArray, List.getElem_cons_zero, List.getElem_cons_succ, List.setIfInBounds_toArray, List.set_cons_zero, List.set_cons_succ]
  refine wpAnyH_ready (rs := [12]) (by kernel_rfl) (by simp) ?_
  refine AllReadyH.cons rfl (fun K hK => ?_) AllReadyH.nil
  go_simp
  refine (bits_any (Rt.mk rm rc rv rx rg) w10 (HT'.out _ HZ10.out)).mono ?_
  rintro e' w11 ⟨rfl, hb⟩
  rw [← HGO2.out.1]
  have HZ11 := Lib.hid (HZ10.out.trans (hb.mono HZ10.out.size))
  clear hb hHeld HZ10
  refine hK.out _ _ HZ11.out (fun hHeld => ?_)
  clear hK K
  try simp only [Act.put, List.getElem_toArray, List.getElem_cons_zero, List.getElem_cons_succ, List.setIfInBounds_toArray, List.set_cons_zero, List.set_cons_succ]
  refine wpAnyH_take (i := 13) (v := ?_) rfl (by kernel_rfl) (by kernel_rfl) (by kernel_rfl) (fun _ _ _ h => h) (Or.inl ⟨by rfl, ?_⟩) (by assumption) ?_
  rotate_left
  · intro w hSw
    clear hSw
    go_simp
    try with_reducible rfl
  try simp only [Act.put, List.getElem_toArray, List.getElem_cons_zero, List.getElem_cons_succ, List.setIfInBounds_toArray, List.set_cons_zero, List.set_cons_succ]
  refine wpAnyH_take (i := 14) (v := ?_) rfl (by kernel_rfl) (by kernel_rfl) (by kernel_rfl) (fun _ _ _ h => h) (Or.inl ⟨by rfl, ?_⟩) (by assumption) ?_
  rotate_left
  · intro w hSw
    clear hSw
    go_simp
    try with_reducible rfl
  try simp only [Act.put, List.getElem_toArray, List.getElem_cons_zero, List.getElem_cons_succ, List.setIfInBounds_toArray, List.set_cons_zero, List.set_cons_succ]
  refine wpAnyH_take (i := 15) (v := ?_) rfl (by kernel_rfl) (by kernel_rfl) (by kernel_rfl) (fun _ _ _ h => h) (Or.inl ⟨by rfl, ?_⟩) (by assumption) ?_
  rotate_left
  · intro w hSw
    clear hSw
    go_simp
    try with_reducible rfl
  try simp only [Act.put, List.getElem_toArray, List.getElem_cons_zero, List.getElem_cons_succ, List.setIfInBounds_toArray, List.set_cons_zero, List.set_cons_succ]
  refine wpAnyH_take (i := 16) (v := .agg (Rt.arr (Rt.mk rm rc rv rx (rg + 1)))) rfl (by kernel_rfl) (by kernel_rfl) (by kernel_rfl) (fun _ _ _ h => h) (yieldsIf_load_mid (by rfl) 27 (.tmp 10) rfl g2 (0) rfl ((Rt.arr (Rt.mk rm rc rv rx (rg + 1)))).toList _ (fun w' hw' => block_range (HG2'.out w' hw')) Tryd.underlying27 rfl sizeRate) (by assumption) ?_
  try simp only [Act.put, List.getElem_toArray, List.getElem_cons_zero, List.getElem_cons_succ, List.setIfInBounds_toArray, List.set_cons_zero, List.set_cons_succ]
  refine wpAnyH_take (i := 18) (v := .agg (Rt.arr (Rt.mk rm rc rv rx rg))) rfl (by kernel_rfl) (by kernel_rfl) (by kernel_rfl) (fun _ _ _ h => h) (yieldsIf_load_mid (by rfl) 27 (.tmp 9) rfl g1 (0) rfl ((Rt.arr (Rt.mk rm rc rv rx rg))).toList _ (fun w' hw' => block_range (HG1'.out w' hw')) Tryd.underlying27 rfl sizeRate) (by assumption) ?_
  try simp only [Act.put, List.getElem_toArray, List.getElem_cons_zero, List.getElem_cons_succ, List.setIfInBounds_toArray, List.set_cons_zero, List.set_cons_succ]
  refine wpAnyH_ready (rs := [17]) (by kernel_rfl) (by simp) ?_
  refine AllReadyH.cons rfl (fun K hK => ?_) AllReadyH.nil
  go_simp
  refine (pre_any (Rt.mk rm rc rv rx (rg + 1)) w11).mono ?_
  rintro e' w12 ⟨rfl, hb⟩
  have HZ12 := Lib.hid (HZ11.out.trans (hb.mono HZ11.out.size))
  clear hb hHeld HZ11
  refine hK.out _ _ HZ12.out (fun hHeld => ?_)
  clear hK K
  try simp only [Act.put, List.getElem_toArray, List.getElem_cons_zero, List.getElem_cons_succ, List.setIfInBounds_toArray, List.set_cons_zero, List.set_cons_succ]
  refine wpAnyH_ready (rs := [19]) (by kernel_rfl) (by simp) ?_
  refine AllReadyH.cons rfl (fun K hK => ?_) AllReadyH.nil
  go_simp
  refine (pre_any (Rt.mk rm rc rv rx rg) w12).mono ?_
  rintro e' w13 ⟨rfl, hb⟩
  rw [← HGO2.out.2]
  have HZ13 := Lib.hid (HZ12.out.trans (hb.mono HZ12.out.size))
  clear hb hHeld HZ12
  refine hK.out _ _ HZ13.out (fun hHeld => ?_)
  clear hK K
  try simp only [Act.put, List.getElem_toArray, List.getElem_cons_zero, List.getElem_cons_succ, List.setIfInBounds_toArray, List.set_cons_zero, List.set_cons_succ]
  refine wpAnyH_take (i := 20) (v := ?_) rfl (by kernel_rfl) (by kernel_rfl) (by kernel_rfl) (fun _ _ _ h => h) (Or.inl ⟨by rfl, ?_⟩) (by assumption) ?_
  rotate_left
  · intro w hSw
    clear hSw
    go_simp
    try with_reducible rfl
  try simp only [Act.put, List.getElem_toArray, List.getElem_cons_zero, List.getElem_cons_succ, List.setIfInBounds_toArray, List.set_cons_zero, List.set_cons_succ]
  refine wpAnyH_take (i := 21) (v := ?_) rfl (by kernel_rfl) (by kernel_rfl) (by kernel_rfl) (fun _ _ _ h => h) (Or.inl ⟨by rfl, ?_⟩) (by assumption) ?_
  rotate_left
  · intro w hSw
    clear hSw
    go_simp
    try with_reducible rfl
  try simp only [Act.put, List.getElem_toArray, List.getElem_cons_zero, List.getElem_cons_succ, List.setIfInBounds_toArray, List.set_cons_zero, List.set_cons_succ]
  refine wpAnyH_take (i := 22) (v := ?_) rfl (by kernel_rfl) (by kernel_rfl) (by kernel_rfl) (fun _ _ _ h => h) (Or.inl ⟨by rfl, ?_⟩) (by assumption) ?_
  rotate_left
  · intro w hSw
    clear hSw
    go_simp
    try with_reducible rfl
  try simp only [Act.put, List.getElem_toArray, List.getElem_cons_zero, List.getElem_cons_succ, List.setIfInBounds_toArray, List.set_cons_zero, List.set_cons_succ]
  refine wpAnyH_done (by kernel_rfl) ?_ _
  try simp only [Act.put, List.getElem_toArray, List.getElem_cons_zero, List.getElem_cons_succ, List.setIfInBounds_toArray, List.set_cons_zero, List.set_cons_succ]
  have HZE := HZ13
  clear HZ13 hHeld hv2 s4 HGO2
  have HB := Lib.hid (HB.out.trans (HZE.out.mono HB.out.size))
  have HG1 := Lib.hid (HG1'.out _ HZE.out)
  clear HZE HG1' HG2' HT' HGO
  have hx0 := rt_cell (r := Rt.mk rm rc rv rx rg) HG1.out 0
  have hx1 := rt_cell (r := Rt.mk rm rc rv rx rg) HG1.out 1
  have hx2 := rt_cell (r := Rt.mk rm rc rv rx rg) HG1.out 2
  have hx3 := rt_cell (r := Rt.mk rm rc rv rx rg) HG1.out 3
  have hx4 := rt_cell (r := Rt.mk rm rc rv rx rg) HG1.out 4
  dsimp only [Rt.arr] at hx0 hx1 hx2 hx3 hx4
  simp only [List.getElem?_toArray, List.getElem?_cons_zero, List.getElem?_cons_succ] at hx0 hx1 hx2 hx3 hx4
  go_wp2_with (fail)
  clear hx0 hx1 hx2 hx3 hx4
  have v0 := nmod_lo n2 5 (by omega)
  have v1 := nmod_hi n2 5 (by omega)
  refine (number_any n2 5 _ HW2.out (by omega) (by omega)).mono ?_
  rintro e w' ⟨rfl, rfl⟩
  generalize nmod n2 5 = v at *
  rcases (by omega : v = 0 ∨ v = 1 ∨ v = 2 ∨ v = 3 ∨ v = 4) with rfl | rfl | rfl | rfl | rfl
  · clear v0 v1
    have HBAD := Lib.hid (show validR (Rt.mk 9 rc rv rx rg) = false from bad_m (show (4 : Int) < 9 by decide))
    have HG3 := Lib.hid (heap_alloc_last w13 (.cells (Rt.arr (Rt.mk 9 rc rv rx rg)) 27))
    have T0 := Lib.hid (HB.out.alloc HB.out.size (.cells (Rt.arr (Rt.mk 9 rc rv rx rg)) 27))
    clear HB
    have HB := T0
    clear T0
    go_wp2_with (fail)
    generalize World.alloc w13 _ = x1 at *
    generalize w13.heap.size = g3 at *
    refine (valid_any (Rt.mk 9 rc rv rx rg) x1).mono ?_
    rintro e x2 ⟨rfl, hB⟩
    rw [HBAD.out]
    have T0 := Lib.hid (HB.out.trans (hB.mono HB.out.size))
    have T1 := Lib.hid ((hB.block _ (lt_blk HG3.out)).trans HG3.out)
    clear hB HB HG3
    have HB := T0
    have HG3 := T1
    clear T0 T1
    have hx0 := rt_cell (r := Rt.mk 9 rc rv rx rg) HG3.out 0
    have hx1 := rt_cell (r := Rt.mk 9 rc rv rx rg) HG3.out 1
    have hx2 := rt_cell (r := Rt.mk 9 rc rv rx rg) HG3.out 2
    have hx3 := rt_cell (r := Rt.mk 9 rc rv rx rg) HG3.out 3
    have hx4 := rt_cell (r := Rt.mk 9 rc rv rx rg) HG3.out 4
    dsimp only [Rt.arr] at hx0 hx1 hx2 hx3 hx4
    simp only [List.getElem?_toArray, List.getElem?_cons_zero, List.getElem?_cons_succ] at hx0 hx1 hx2 hx3 hx4
    go_wp2_with (fail)
    clear hx0 hx1 hx2 hx3 hx4
    refine (bits_any (Rt.mk 9 rc rv rx rg) x2 (HT.out.below HB.out)).mono ?_
    rintro e x3 ⟨rfl, hB⟩
    rw [bits_no HBAD.out]
    have T0 := Lib.hid (HB.out.trans (hB.mono HB.out.size))
    have T1 := Lib.hid ((hB.block _ (lt_blk HG3.out)).trans HG3.out)
    clear hB HB HG3
    have HB := T0
    have HG3 := T1
    clear T0 T1
    have hx0 := rt_cell (r := Rt.mk 9 rc rv rx rg) HG3.out 0
    have hx1 := rt_cell (r := Rt.mk 9 rc rv rx rg) HG3.out 1
    have hx2 := rt_cell (r := Rt.mk 9 rc rv rx rg) HG3.out 2
    have hx3 := rt_cell (r := Rt.mk 9 rc rv rx rg) HG3.out 3
    have hx4 := rt_cell (r := Rt.mk 9 rc rv rx rg) HG3.out 4
    dsimp only [Rt.arr] at hx0 hx1 hx2 hx3 hx4
    simp only [List.getElem?_toArray, List.getElem?_cons_zero, List.getElem?_cons_succ] at hx0 hx1 hx2 hx3 hx4
    go_wp2_with (fail)
    clear hx0 hx1 hx2 hx3 hx4
    refine (sym_any (Rt.mk 9 rc rv rx rg) x3).mono ?_
    rintro e x4 ⟨rfl, hB⟩
    rw [sym_no HBAD.out]
    have T0 := Lib.hid (HB.out.trans (hB.mono HB.out.size))
    have T1 := Lib.hid ((hB.block _ (lt_blk HG3.out)).trans HG3.out)
    clear hB HB HG3
    have HB := T0
    have HG3 := T1
    clear T0 T1
    have hx0 := rt_cell (r := Rt.mk 9 rc rv rx rg) HG3.out 0
    have hx1 := rt_cell (r := Rt.mk 9 rc rv rx rg) HG3.out 1
    have hx2 := rt_cell (r := Rt.mk 9 rc rv rx rg) HG3.out 2
    have hx3 := rt_cell (r := Rt.mk 9 rc rv rx rg) HG3.out 3
    have hx4 := rt_cell (r := Rt.mk 9 rc rv rx rg) HG3.out 4
    dsimp only [Rt.arr] at hx0 hx1 hx2 hx3 hx4
    simp only [List.getElem?_toArray, List.getElem?_cons_zero, List.getElem?_cons_succ] at hx0 hx1 hx2 hx3 hx4
    go_wp2_with (fail)
    clear hx0 hx1 hx2 hx3 hx4
    refine (pre_any (Rt.mk 9 rc rv rx rg) x4).mono ?_
    rintro e x5 ⟨rfl, hB⟩
    rw [pre_no HBAD.out]
    have T0 := Lib.hid (HB.out.trans (hB.mono HB.out.size))
    have T1 := Lib.hid ((hB.block _ (lt_blk HG3.out)).trans HG3.out)
    clear hB HB HG3
    have HB := T0
    have HG3 := T1
    clear T0 T1
    go_wp2_with (fail)
    refine (valid_any ⟨0, 0, 0, 0, 0⟩ x5).mono ?_
    rintro e x6 ⟨rfl, hB⟩
    rw [bad_0]
    have T0 := Lib.hid (HB.out.trans (hB.mono HB.out.size))
    clear hB HB
    have HB := T0
    clear T0
    go_wp2_with (fail)
    refine (all_any 5 x6).mono ?_
    rintro e x7 ⟨A', c', rfl, hr, hc, hB⟩
    rw [none_5]
    clear hr hc
    have T0 := Lib.hid (HB.out.trans (hB.mono HB.out.size))
    clear hB HB
    have HB := T0
    clear T0
    go_wp2
    go_ret
    exact ⟨rfl, HB.out⟩
  · clear v0 v1
    have HBAD := Lib.hid (show validR (Rt.mk rm 12 rv rx rg) = false from bad_c (show (11 : Int) < 12 by decide))
    have HG3 := Lib.hid (heap_alloc_last w13 (.cells (Rt.arr (Rt.mk rm 12 rv rx rg)) 27))
    have T0 := Lib.hid (HB.out.alloc HB.out.size (.cells (Rt.arr (Rt.mk rm 12 rv rx rg)) 27))
    clear HB
    have HB := T0
    clear T0
    go_wp2_with (fail)
    generalize World.alloc w13 _ = x1 at *
    generalize w13.heap.size = g3 at *
    refine (valid_any (Rt.mk rm 12 rv rx rg) x1).mono ?_
    rintro e x2 ⟨rfl, hB⟩
    rw [HBAD.out]
    have T0 := Lib.hid (HB.out.trans (hB.mono HB.out.size))
    have T1 := Lib.hid ((hB.block _ (lt_blk HG3.out)).trans HG3.out)
    clear hB HB HG3
    have HB := T0
    have HG3 := T1
    clear T0 T1
    have hx0 := rt_cell (r := Rt.mk rm 12 rv rx rg) HG3.out 0
    have hx1 := rt_cell (r := Rt.mk rm 12 rv rx rg) HG3.out 1
    have hx2 := rt_cell (r := Rt.mk rm 12 rv rx rg) HG3.out 2
    have hx3 := rt_cell (r := Rt.mk rm 12 rv rx rg) HG3.out 3
    have hx4 := rt_cell (r := Rt.mk rm 12 rv rx rg) HG3.out 4
    dsimp only [Rt.arr] at hx0 hx1 hx2 hx3 hx4
    simp only [List.getElem?_toArray, List.getElem?_cons_zero, List.getElem?_cons_succ] at hx0 hx1 hx2 hx3 hx4
    go_wp2_with (fail)
    clear hx0 hx1 hx2 hx3 hx4
    refine (bits_any (Rt.mk rm 12 rv rx rg) x2 (HT.out.below HB.out)).mono ?_
    rintro e x3 ⟨rfl, hB⟩
    rw [bits_no HBAD.out]
    have T0 := Lib.hid (HB.out.trans (hB.mono HB.out.size))
    have T1 := Lib.hid ((hB.block _ (lt_blk HG3.out)).trans HG3.out)
    clear hB HB HG3
    have HB := T0
    have HG3 := T1
    clear T0 T1
    have hx0 := rt_cell (r := Rt.mk rm 12 rv rx rg) HG3.out 0
    have hx1 := rt_cell (r := Rt.mk rm 12 rv rx rg) HG3.out 1
    have hx2 := rt_cell (r := Rt.mk rm 12 rv rx rg) HG3.out 2
    have hx3 := rt_cell (r := Rt.mk rm 12 rv rx rg) HG3.out 3
    have hx4 := rt_cell (r := Rt.mk rm 12 rv rx rg) HG3.out 4
    dsimp only [Rt.arr] at hx0 hx1 hx2 hx3 hx4
    simp only [List.getElem?_toArray, List.getElem?_cons_zero, List.getElem?_cons_succ] at hx0 hx1 hx2 hx3 hx4
    go_wp2_with (fail)
    clear hx0 hx1 hx2 hx3 hx4
    refine (sym_any (Rt.mk rm 12 rv rx rg) x3).mono ?_
    rintro e x4 ⟨rfl, hB⟩
    rw [sym_no HBAD.out]
    have T0 := Lib.hid (HB.out.trans (hB.mono HB.out.size))
    have T1 := Lib.hid ((hB.block _ (lt_blk HG3.out)).trans HG3.out)
    clear hB HB HG3
    have HB := T0
    have HG3 := T1
    clear T0 T1
    have hx0 := rt_cell (r := Rt.mk rm 12 rv rx rg) HG3.out 0
    have hx1 := rt_cell (r := Rt.mk rm 12 rv rx rg) HG3.out 1
    have hx2 := rt_cell (r := Rt.mk rm 12 rv rx rg) HG3.out 2
    have hx3 := rt_cell (r := Rt.mk rm 12 rv rx rg) HG3.out 3
    have hx4 := rt_cell (r := Rt.mk rm 12 rv rx rg) HG3.out 4
    dsimp only [Rt.arr] at hx0 hx1 hx2 hx3 hx4
    simp only [List.getElem?_toArray, List.getElem?_cons_zero, List.getElem?_cons_succ] at hx0 hx1 hx2 hx3 hx4
    go_wp2_with (fail)
    clear hx0 hx1 hx2 hx3 hx4
    refine (pre_any (Rt.mk rm 12 rv rx rg) x4).mono ?_
    rintro e x5 ⟨rfl, hB⟩
    rw [pre_no HBAD.out]
    have T0 := Lib.hid (HB.out.trans (hB.mono HB.out.size))
    have T1 := Lib.hid ((hB.block _ (lt_blk HG3.out)).trans HG3.out)
    clear hB HB HG3
    have HB := T0
    have HG3 := T1
    clear T0 T1
    go_wp2_with (fail)
    refine (valid_any ⟨0, 0, 0, 0, 0⟩ x5).mono ?_
    rintro e x6 ⟨rfl, hB⟩
    rw [bad_0]
    have T0 := Lib.hid (HB.out.trans (hB.mono HB.out.size))
    clear hB HB
    have HB := T0
    clear T0
    go_wp2_with (fail)
    refine (all_any 5 x6).mono ?_
    rintro e x7 ⟨A', c', rfl, hr, hc, hB⟩
    rw [none_5]
    clear hr hc
    have T0 := Lib.hid (HB.out.trans (hB.mono HB.out.size))
    clear hB HB
    have HB := T0
    clear T0
    go_wp2
    go_ret
    exact ⟨rfl, HB.out⟩
  · clear v0 v1
    have HBAD := Lib.hid (show validR (Rt.mk rm rc 9 rx rg) = false from bad_s (show (8 : Int) < 9 by decide))
    have HG3 := Lib.hid (heap_alloc_last w13 (.cells (Rt.arr (Rt.mk rm rc 9 rx rg)) 27))
    have T0 := Lib.hid (HB.out.alloc HB.out.size (.cells (Rt.arr (Rt.mk rm rc 9 rx rg)) 27))
    clear HB
    have HB := T0
    clear T0
    go_wp2_with (fail)
    generalize World.alloc w13 _ = x1 at *
    generalize w13.heap.size = g3 at *
    refine (valid_any (Rt.mk rm rc 9 rx rg) x1).mono ?_
    rintro e x2 ⟨rfl, hB⟩
    rw [HBAD.out]
    have T0 := Lib.hid (HB.out.trans (hB.mono HB.out.size))
    have T1 := Lib.hid ((hB.block _ (lt_blk HG3.out)).trans HG3.out)
    clear hB HB HG3
    have HB := T0
    have HG3 := T1
    clear T0 T1
    have hx0 := rt_cell (r := Rt.mk rm rc 9 rx rg) HG3.out 0
    have hx1 := rt_cell (r := Rt.mk rm rc 9 rx rg) HG3.out 1
    have hx2 := rt_cell (r := Rt.mk rm rc 9 rx rg) HG3.out 2
    have hx3 := rt_cell (r := Rt.mk rm rc 9 rx rg) HG3.out 3
    have hx4 := rt_cell (r := Rt.mk rm rc 9 rx rg) HG3.out 4
    dsimp only [Rt.arr] at hx0 hx1 hx2 hx3 hx4
    simp only [List.getElem?_toArray, List.getElem?_cons_zero, List.getElem?_cons_succ] at hx0 hx1 hx2 hx3 hx4
    go_wp2_with (fail)
    clear hx0 hx1 hx2 hx3 hx4
    refine (bits_any (Rt.mk rm rc 9 rx rg) x2 (HT.out.below HB.out)).mono ?_
    rintro e x3 ⟨rfl, hB⟩
    rw [bits_no HBAD.out]
    have T0 := Lib.hid (HB.out.trans (hB.mono HB.out.size))
    have T1 := Lib.hid ((hB.block _ (lt_blk HG3.out)).trans HG3.out)
    clear hB HB HG3
    have HB := T0
    have HG3 := T1
    clear T0 T1
    have hx0 := rt_cell (r := Rt.mk rm rc 9 rx rg) HG3.out 0
    have hx1 := rt_cell (r := Rt.mk rm rc 9 rx rg) HG3.out 1
    have hx2 := rt_cell (r := Rt.mk rm rc 9 rx rg) HG3.out 2
    have hx3 := rt_cell (r := Rt.mk rm rc 9 rx rg) HG3.out 3
    have hx4 := rt_cell (r := Rt.mk rm rc 9 rx rg) HG3.out 4
    dsimp only [Rt.arr] at hx0 hx1 hx2 hx3 hx4
    simp only [List.getElem?_toArray, List.getElem?_cons_zero, List.getElem?_cons_succ] at hx0 hx1 hx2 hx3 hx4
    go_wp2_with (fail)
    clear hx0 hx1 hx2 hx3 hx4
    refine (sym_any (Rt.mk rm rc 9 rx rg) x3).mono ?_
    rintro e x4 ⟨rfl, hB⟩
    rw [sym_no HBAD.out]
    have T0 := Lib.hid (HB.out.trans (hB.mono HB.out.size))
    have T1 := Lib.hid ((hB.block _ (lt_blk HG3.out)).trans HG3.out)
    clear hB HB HG3
    have HB := T0
    have HG3 := T1
    clear T0 T1
    have hx0 := rt_cell (r := Rt.mk rm rc 9 rx rg) HG3.out 0
    have hx1 := rt_cell (r := Rt.mk rm rc 9 rx rg) HG3.out 1
    have hx2 := rt_cell (r := Rt.mk rm rc 9 rx rg) HG3.out 2
    have hx3 := rt_cell (r := Rt.mk rm rc 9 rx rg) HG3.out 3
    have hx4 := rt_cell (r := Rt.mk rm rc 9 rx rg) HG3.out 4
    dsimp only [Rt.arr] at hx0 hx1 hx2 hx3 hx4
    simp only [List.getElem?_toArray, List.getElem?_cons_zero, List.getElem?_cons_succ] at hx0 hx1 hx2 hx3 hx4
    go_wp2_with (fail)
    clear hx0 hx1 hx2 hx3 hx4
    refine (pre_any (Rt.mk rm rc 9 rx rg) x4).mono ?_
    rintro e x5 ⟨rfl, hB⟩
    rw [pre_no HBAD.out]
    have T0 := Lib.hid (HB.out.trans (hB.mono HB.out.size))
    have T1 := Lib.hid ((hB.block _ (lt_blk HG3.out)).trans HG3.out)
    clear hB HB HG3
    have HB := T0
    have HG3 := T1
    clear T0 T1
    go_wp2_with (fail)
    refine (valid_any ⟨0, 0, 0, 0, 0⟩ x5).mono ?_
    rintro e x6 ⟨rfl, hB⟩
    rw [bad_0]
    have T0 := Lib.hid (HB.out.trans (hB.mono HB.out.size))
    clear hB HB
    have HB := T0
    clear T0
    go_wp2_with (fail)
    refine (all_any 5 x6).mono ?_
    rintro e x7 ⟨A', c', rfl, hr, hc, hB⟩
    rw [none_5]
    clear hr hc
    have T0 := Lib.hid (HB.out.trans (hB.mono HB.out.size))
    clear hB HB
    have HB := T0
    clear T0
    go_wp2
    go_ret
    exact ⟨rfl, HB.out⟩
  · clear v0 v1
    have HBAD := Lib.hid (show validR (Rt.mk rm rc rv 25 rg) = false from bad_w (show wid 25 < 0 by decide))
    have HG3 := Lib.hid (heap_alloc_last w13 (.cells (Rt.arr (Rt.mk rm rc rv 25 rg)) 27))
    have T0 := Lib.hid (HB.out.alloc HB.out.size (.cells (Rt.arr (Rt.mk rm rc rv 25 rg)) 27))
    clear HB
    have HB := T0
    clear T0
    go_wp2_with (fail)
    generalize World.alloc w13 _ = x1 at *
    generalize w13.heap.size = g3 at *
    refine (valid_any (Rt.mk rm rc rv 25 rg) x1).mono ?_
    rintro e x2 ⟨rfl, hB⟩
    rw [HBAD.out]
    have T0 := Lib.hid (HB.out.trans (hB.mono HB.out.size))
    have T1 := Lib.hid ((hB.block _ (lt_blk HG3.out)).trans HG3.out)
    clear hB HB HG3
    have HB := T0
    have HG3 := T1
    clear T0 T1
    have hx0 := rt_cell (r := Rt.mk rm rc rv 25 rg) HG3.out 0
    have hx1 := rt_cell (r := Rt.mk rm rc rv 25 rg) HG3.out 1
    have hx2 := rt_cell (r := Rt.mk rm rc rv 25 rg) HG3.out 2
    have hx3 := rt_cell (r := Rt.mk rm rc rv 25 rg) HG3.out 3
    have hx4 := rt_cell (r := Rt.mk rm rc rv 25 rg) HG3.out 4
    dsimp only [Rt.arr] at hx0 hx1 hx2 hx3 hx4
    simp only [List.getElem?_toArray, List.getElem?_cons_zero, List.getElem?_cons_succ] at hx0 hx1 hx2 hx3 hx4
    go_wp2_with (fail)
    clear hx0 hx1 hx2 hx3 hx4
    refine (bits_any (Rt.mk rm rc rv 25 rg) x2 (HT.out.below HB.out)).mono ?_
    rintro e x3 ⟨rfl, hB⟩
    rw [bits_no HBAD.out]
    have T0 := Lib.hid (HB.out.trans (hB.mono HB.out.size))
    have T1 := Lib.hid ((hB.block _ (lt_blk HG3.out)).trans HG3.out)
    clear hB HB HG3
    have HB := T0
    have HG3 := T1
    clear T0 T1
    have hx0 := rt_cell (r := Rt.mk rm rc rv 25 rg) HG3.out 0
    have hx1 := rt_cell (r := Rt.mk rm rc rv 25 rg) HG3.out 1
    have hx2 := rt_cell (r := Rt.mk rm rc rv 25 rg) HG3.out 2
    have hx3 := rt_cell (r := Rt.mk rm rc rv 25 rg) HG3.out 3
    have hx4 := rt_cell (r := Rt.mk rm rc rv 25 rg) HG3.out 4
    dsimp only [Rt.arr] at hx0 hx1 hx2 hx3 hx4
    simp only [List.getElem?_toArray, List.getElem?_cons_zero, List.getElem?_cons_succ] at hx0 hx1 hx2 hx3 hx4
    go_wp2_with (fail)
    clear hx0 hx1 hx2 hx3 hx4
    refine (sym_any (Rt.mk rm rc rv 25 rg) x3).mono ?_
    rintro e x4 ⟨rfl, hB⟩
    rw [sym_no HBAD.out]
    have T0 := Lib.hid (HB.out.trans (hB.mono HB.out.size))
    have T1 := Lib.hid ((hB.block _ (lt_blk HG3.out)).trans HG3.out)
    clear hB HB HG3
    have HB := T0
    have HG3 := T1
    clear T0 T1
    have hx0 := rt_cell (r := Rt.mk rm rc rv 25 rg) HG3.out 0
    have hx1 := rt_cell (r := Rt.mk rm rc rv 25 rg) HG3.out 1
    have hx2 := rt_cell (r := Rt.mk rm rc rv 25 rg) HG3.out 2
    have hx3 := rt_cell (r := Rt.mk rm rc rv 25 rg) HG3.out 3
    have hx4 := rt_cell (r := Rt.mk rm rc rv 25 rg) HG3.out 4
    dsimp only [Rt.arr] at hx0 hx1 hx2 hx3 hx4
    simp only [List.getElem?_toArray, List.getElem?_cons_zero, List.getElem?_cons_succ] at hx0 hx1 hx2 hx3 hx4
    go_wp2_with (fail)
    clear hx0 hx1 hx2 hx3 hx4
    refine (pre_any (Rt.mk rm rc rv 25 rg) x4).mono ?_
    rintro e x5 ⟨rfl, hB⟩
    rw [pre_no HBAD.out]
    have T0 := Lib.hid (HB.out.trans (hB.mono HB.out.size))
    have T1 := Lib.hid ((hB.block _ (lt_blk HG3.out)).trans HG3.out)
    clear hB HB HG3
    have HB := T0
    have HG3 := T1
    clear T0 T1
    go_wp2_with (fail)
    refine (valid_any ⟨0, 0, 0, 0, 0⟩ x5).mono ?_
    rintro e x6 ⟨rfl, hB⟩
    rw [bad_0]
    have T0 := Lib.hid (HB.out.trans (hB.mono HB.out.size))
    clear hB HB
    have HB := T0
    clear T0
    go_wp2_with (fail)
    refine (all_any 5 x6).mono ?_
    rintro e x7 ⟨A', c', rfl, hr, hc, hB⟩
    rw [none_5]
    clear hr hc
    have T0 := Lib.hid (HB.out.trans (hB.mono HB.out.size))
    clear hB HB
    have HB := T0
    clear T0
    go_wp2
    go_ret
    exact ⟨rfl, HB.out⟩
  · clear v0 v1
    have HBAD := Lib.hid (show validR (Rt.mk rm rc rv rx 3) = false from bad_g (show (2 : Int) < 3 by decide))
    have HG3 := Lib.hid (heap_alloc_last w13 (.cells (Rt.arr (Rt.mk rm rc rv rx 3)) 27))
    have T0 := Lib.hid (HB.out.alloc HB.out.size (.cells (Rt.arr (Rt.mk rm rc rv rx 3)) 27))
    clear HB
    have HB := T0
    clear T0
    go_wp2_with (fail)
    generalize World.alloc w13 _ = x1 at *
    generalize w13.heap.size = g3 at *
    refine (valid_any (Rt.mk rm rc rv rx 3) x1).mono ?_
    rintro e x2 ⟨rfl, hB⟩
    rw [HBAD.out]
    have T0 := Lib.hid (HB.out.trans (hB.mono HB.out.size))
    have T1 := Lib.hid ((hB.block _ (lt_blk HG3.out)).trans HG3.out)
    clear hB HB HG3
    have HB := T0
    have HG3 := T1
    clear T0 T1
    have hx0 := rt_cell (r := Rt.mk rm rc rv rx 3) HG3.out 0
    have hx1 := rt_cell (r := Rt.mk rm rc rv rx 3) HG3.out 1
    have hx2 := rt_cell (r := Rt.mk rm rc rv rx 3) HG3.out 2
    have hx3 := rt_cell (r := Rt.mk rm rc rv rx 3) HG3.out 3
    have hx4 := rt_cell (r := Rt.mk rm rc rv rx 3) HG3.out 4
    dsimp only [Rt.arr] at hx0 hx1 hx2 hx3 hx4
    simp only [List.getElem?_toArray, List.getElem?_cons_zero, List.getElem?_cons_succ] at hx0 hx1 hx2 hx3 hx4
    go_wp2_with (fail)
    clear hx0 hx1 hx2 hx3 hx4
    refine (bits_any (Rt.mk rm rc rv rx 3) x2 (HT.out.below HB.out)).mono ?_
    rintro e x3 ⟨rfl, hB⟩
    rw [bits_no HBAD.out]
    have T0 := Lib.hid (HB.out.trans (hB.mono HB.out.size))
    have T1 := Lib.hid ((hB.block _ (lt_blk HG3.out)).trans HG3.out)
    clear hB HB HG3
    have HB := T0
    have HG3 := T1
    clear T0 T1
    have hx0 := rt_cell (r := Rt.mk rm rc rv rx 3) HG3.out 0
    have hx1 := rt_cell (r := Rt.mk rm rc rv rx 3) HG3.out 1
    have hx2 := rt_cell (r := Rt.mk rm rc rv rx 3) HG3.out 2
    have hx3 := rt_cell (r := Rt.mk rm rc rv rx 3) HG3.out 3
    have hx4 := rt_cell (r := Rt.mk rm rc rv rx 3) HG3.out 4
    dsimp only [Rt.arr] at hx0 hx1 hx2 hx3 hx4
    simp only [List.getElem?_toArray, List.getElem?_cons_zero, List.getElem?_cons_succ] at hx0 hx1 hx2 hx3 hx4
    go_wp2_with (fail)
    clear hx0 hx1 hx2 hx3 hx4
    refine (sym_any (Rt.mk rm rc rv rx 3) x3).mono ?_
    rintro e x4 ⟨rfl, hB⟩
    rw [sym_no HBAD.out]
    have T0 := Lib.hid (HB.out.trans (hB.mono HB.out.size))
    have T1 := Lib.hid ((hB.block _ (lt_blk HG3.out)).trans HG3.out)
    clear hB HB HG3
    have HB := T0
    have HG3 := T1
    clear T0 T1
    have hx0 := rt_cell (r := Rt.mk rm rc rv rx 3) HG3.out 0
    have hx1 := rt_cell (r := Rt.mk rm rc rv rx 3) HG3.out 1
    have hx2 := rt_cell (r := Rt.mk rm rc rv rx 3) HG3.out 2
    have hx3 := rt_cell (r := Rt.mk rm rc rv rx 3) HG3.out 3
    have hx4 := rt_cell (r := Rt.mk rm rc rv rx 3) HG3.out 4
    dsimp only [Rt.arr] at hx0 hx1 hx2 hx3 hx4
    simp only [List.getElem?_toArray, List.getElem?_cons_zero, List.getElem?_cons_succ] at hx0 hx1 hx2 hx3 hx4
    go_wp2_with (fail)
    clear hx0 hx1 hx2 hx3 hx4
    refine (pre_any (Rt.mk rm rc rv rx 3) x4).mono ?_
    rintro e x5 ⟨rfl, hB⟩
    rw [pre_no HBAD.out]
    have T0 := Lib.hid (HB.out.trans (hB.mono HB.out.size))
    have T1 := Lib.hid ((hB.block _ (lt_blk HG3.out)).trans HG3.out)
    clear hB HB HG3
    have HB := T0
    have HG3 := T1
    clear T0 T1
    go_wp2_with (fail)
    refine (valid_any ⟨0, 0, 0, 0, 0⟩ x5).mono ?_
    rintro e x6 ⟨rfl, hB⟩
    rw [bad_0]
    have T0 := Lib.hid (HB.out.trans (hB.mono HB.out.size))
    clear hB HB
    have HB := T0
    clear T0
    go_wp2_with (fail)
    refine (all_any 5 x6).mono ?_
    rintro e x7 ⟨A', c', rfl, hr, hc, hB⟩
    rw [none_5]
    clear hr hc
    have T0 := Lib.hid (HB.out.trans (hB.mono HB.out.size))
    clear hB HB
    have HB := T0
    clear T0
    go_wp2
    go_ret
    exact ⟨rfl, HB.out⟩
end Go.Proofs.YtddbboocommodaaDoor.rateGuard
