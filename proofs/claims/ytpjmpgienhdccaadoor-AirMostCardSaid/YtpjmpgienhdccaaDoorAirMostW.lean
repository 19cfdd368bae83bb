/-
  The walk of muezzin/muezzinlaw9.AirMost: the Go text returns true.
-/
import Derived.Test.YtpjmpgienhdccaaDoorAirL
import Derived.Deep.RegionHeld3
namespace Go.Proofs.YtpjmpgienhdccaaDoor.airMost
open Go.ChangeShapes Go.WideShapes Go.ChangeAt Go.RowKit Go.Joins Go.Deep
set_option linter.unusedVariables false
set_option linter.unusedSimpArgs false

theorem facts {r : Rt} {t u N M : Int} (hv : validR r = true) (hu : 0 ≤ u) (hN : mostR r t = N) (hM : mostR r (t - u) = M) :
    (N < 0 → t < ppduR r 0 ∧ M = -1) ∧ (0 ≤ N → M ≤ N ∧ ppduR r N ≤ t ∧ N ≤ 1048576 ∧ (N ≠ 1048576 → t < ppduR r (N + 1))) := by
  have h1 := most_is r t
  have h2 := most_is r (t - u)
  have h3 := most_less h1 h2 (by omega)
  rw [hN] at h1 h3
  rw [hM] at h2 h3
  rcases h1 with ⟨_, p, m0, m1, m2, m3⟩ | ⟨v, e⟩
  · exact ⟨fun h => by omega, fun h => ⟨h3, m2, m1, fun hne => m3 (N + 1) (by omega) (by omega)⟩⟩
  · refine ⟨fun h => ⟨?_, ?_⟩, fun h => by omega⟩
    · rcases v with v | v
      · rw [hv] at v; cases v
      · exact v
    · rcases h2 with ⟨_, p, m0, m1, m2, m3⟩ | ⟨v, e⟩
      · omega
      · exact e
set_option maxRecDepth 100000 in
set_option maxHeartbeats 8000000 in
theorem walk (n0 : Int) (n1 : Int) (n2 : Int) (n3 : Int) (w : World) (hS : Tab w) (w0 : (Lit.int .i64 n0).wf = true) (w1 : (Lit.int .i64 n1).wf = true) (w2 : (Lit.int .i64 n2).wf = true) (w3 : (Lit.int .i64 n3).wf = true) :
    Calls Tryd.prog 6 #[.int .i64 n0, .int .i64 n1, .int .i64 n2, .int .i64 n3] w fun e w' => e = .returned (.bool true) ∧ Below w.heap.size w w' := by
  have HT := Lib.hid hS
  have HW0 := Lib.hid w0
  have HW1 := Lib.hid w1
  have HW2 := Lib.hid w2
  have HW3 := Lib.hid w3
  clear hS w0 w1 w2 w3
  go_enter Tryd.func6, Tryd.ntmps6
  go_wp2_with (fail)
  refine (first_any w HT.out).mono ?_
  rintro e w2 ⟨rfl, hB⟩
  have HB := Lib.hid hB
  clear hB
  have m0 := nmod_lo n0 4 (by omega)
  have m1 := nmod_hi n0 4 (by omega)
  go_wp2_with (fail)
  refine (number_any n0 4 w2 HW0.out (by omega) (by omega)).mono ?_
  rintro e w' ⟨rfl, rfl⟩
  generalize nmod n0 4 = m' at *
  have HM4 := Lib.hid (show 1 ≤ m' + 1 ∧ m' + 1 ≤ 4 by omega)
  go_wp2_with (fail)
  refine (all_any (m' + 1) w2).mono ?_
  clear m0 m1
  generalize m' + 1 = m at *
  rintro e w3 ⟨A, c, rfl, hr, hc, hB⟩
  have HR := Lib.hid hr
  clear hr hc
  have T0 := Lib.hid (HB.out.trans (hB.mono HB.out.size))
  clear hB HB
  have HB := T0
  clear T0
  have HAG := Lib.hid (fun (i : Nat) (hi : i < (allR m).length) => all_get (m := m) d0 hi)
  have hpos : 0 < (allR m).length := all_pos HM4.out.1 HM4.out.2
  have hle : (allR m).length ≤ 1152 := all_le m
  generalize allR m = l at *
  generalize l.length = n at *
  obtain ⟨b, off, rfl, -⟩ := HR.out.els hpos
  have hn0 : ((n : Int) == 0) = false := by simp; omega
  have i0 := nmod_lo n1 n (by omega)
  have i1 := nmod_hi n1 n (by omega)
  go_wp2_with (fail)
  refine (number_any n1 n w3 HW1.out (by omega) (by omega)).mono ?_
  rintro e w' ⟨rfl, rfl⟩
  obtain ⟨q1, hq1⟩ := Int.eq_ofNat_of_zero_le i0
  rw [hq1] at i1 ⊢
  have hiq1 : q1 < n := by omega
  clear i0 hq1
  have HC1 := Lib.hid (row_at HR.out q1 hiq1)
  obtain ⟨hv, hm⟩ := HAG.out q1 hiq1
  have HV1 := Lib.hid hv
  have HM1 := Lib.hid hm
  clear hv hm
  generalize l.getD q1 d0 = r at *
  obtain ⟨rm, rc, rv, rx, rg⟩ := r
  have HG1 := Lib.hid (heap_alloc_last w3 (.cells (Rt.arr ⟨rm, rc, rv, rx, rg⟩) 27))
  have T0 := Lib.hid (HB.out.alloc HB.out.size (.cells (Rt.arr ⟨rm, rc, rv, rx, rg⟩) 27))
  have T1 := Lib.hid (HR.out.below ((Below.refl w3.heap.size w3).alloc (Nat.le_refl _) (.cells (Rt.arr ⟨rm, rc, rv, rx, rg⟩) 27)))
  clear HB HR
  have HB := T0
  have HR := T1
  clear T0 T1
  cases d1 : decide (n2 < 0)
  rotate_left
  · go_wp2_with (refine wpList_load_mid rfl 27 (.tmp 29) rfl b (off + q1 * 5) rfl [.int .i64 rm, .int .i64 rc, .int .i64 rv, .int .i64 rx, .int .i64 rg] _ HC1.out Tryd.underlying27 rfl sizeRate ?_)
    go_ret
    exact ⟨rfl, HB.out⟩
  cases d2 : decide (1099511627776 < n2)
  rotate_left
  · go_wp2_with (refine wpList_load_mid rfl 27 (.tmp 29) rfl b (off + q1 * 5) rfl [.int .i64 rm, .int .i64 rc, .int .i64 rv, .int .i64 rx, .int .i64 rg] _ HC1.out Tryd.underlying27 rfl sizeRate ?_)
    go_ret
    exact ⟨rfl, HB.out⟩
  cases d3 : decide (n3 < 0)
  rotate_left
  · go_wp2_with (refine wpList_load_mid rfl 27 (.tmp 29) rfl b (off + q1 * 5) rfl [.int .i64 rm, .int .i64 rc, .int .i64 rv, .int .i64 rx, .int .i64 rg] _ HC1.out Tryd.underlying27 rfl sizeRate ?_)
    go_ret
    exact ⟨rfl, HB.out⟩
  cases d4 : decide (1099511627776 < n3)
  rotate_left
  · go_wp2_with (refine wpList_load_mid rfl 27 (.tmp 29) rfl b (off + q1 * 5) rfl [.int .i64 rm, .int .i64 rc, .int .i64 rv, .int .i64 rx, .int .i64 rg] _ HC1.out Tryd.underlying27 rfl sizeRate ?_)
    go_ret
    exact ⟨rfl, HB.out⟩
  go_wp2_with (refine wpList_load_mid rfl 27 (.tmp 29) rfl b (off + q1 * 5) rfl [.int .i64 rm, .int .i64 rc, .int .i64 rv, .int .i64 rx, .int .i64 rg] _ HC1.out Tryd.underlying27 rfl sizeRate ?_)
  generalize World.alloc w3 _ = w4 at *
  generalize w3.heap.size = g1 at *
  clear HC1
  have HD := Lib.hid (show (0 ≤ n2 ∧ n2 ≤ 1099511627776) ∧ 0 ≤ n3 ∧ n3 ≤ 1099511627776 by have := of_decide_eq_false d1; have := of_decide_eq_false d2; have := of_decide_eq_false d3; have := of_decide_eq_false d4; omega)
  have hx0 := rt_cell (r := Rt.mk rm rc rv rx rg) HG1.out 0
  have hx1 := rt_cell (r := Rt.mk rm rc rv rx rg) HG1.out 1
  have hx2 := rt_cell (r := Rt.mk rm rc rv rx rg) HG1.out 2
  have hx3 := rt_cell (r := Rt.mk rm rc rv rx rg) HG1.out 3
  have hx4 := rt_cell (r := Rt.mk rm rc rv rx rg) HG1.out 4
  dsimp only [Rt.arr] at hx0 hx1 hx2 hx3 hx4
  simp only [List.getElem?_toArray, List.getElem?_cons_zero, List.getElem?_cons_succ] at hx0 hx1 hx2 hx3 hx4
  go_wp2_with (fail)
  clear hx0 hx1 hx2 hx3 hx4
  clear d1 d2 d3 d4
  refine (mostair_any (Rt.mk rm rc rv rx rg) n2 w4 (HT.out.below HB.out)).mono ?_
  rintro e w5 ⟨rfl, hB⟩
  have T0 := Lib.hid (HB.out.trans (hB.mono HB.out.size))
  have T1 := Lib.hid ((hB.block _ (lt_blk HG1.out)).trans HG1.out)
  clear hB HB HG1
  have HB := T0
  have HG1 := T1
  clear T0 T1
  obtain ⟨⟨a0, a1⟩, b0, b1⟩ := HD.out
  have hx0 := rt_cell (r := Rt.mk rm rc rv rx rg) HG1.out 0
  have hx1 := rt_cell (r := Rt.mk rm rc rv rx rg) HG1.out 1
  have hx2 := rt_cell (r := Rt.mk rm rc rv rx rg) HG1.out 2
  have hx3 := rt_cell (r := Rt.mk rm rc rv rx rg) HG1.out 3
  have hx4 := rt_cell (r := Rt.mk rm rc rv rx rg) HG1.out 4
  dsimp only [Rt.arr] at hx0 hx1 hx2 hx3 hx4
  simp only [List.getElem?_toArray, List.getElem?_cons_zero, List.getElem?_cons_succ] at hx0 hx1 hx2 hx3 hx4
  go_wp2_with (fail)
  clear hx0 hx1 hx2 hx3 hx4
  clear a0 a1 b0 b1
  refine (mostair_any (Rt.mk rm rc rv rx rg) (n2 - n3) w5 (HT.out.below HB.out)).mono ?_
  rintro e w6 ⟨rfl, hB⟩
  have T0 := Lib.hid (HB.out.trans (hB.mono HB.out.size))
  have T1 := Lib.hid ((hB.block _ (lt_blk HG1.out)).trans HG1.out)
  clear hB HB HG1
  have HB := T0
  have HG1 := T1
  clear T0 T1
  generalize hN : mostR (Rt.mk rm rc rv rx rg) n2 = N at *
  generalize hM : mostR (Rt.mk rm rc rv rx rg) (n2 - n3) = M at *
  have HF := Lib.hid (facts HV1.out HD.out.2.1 hN hM)
  clear hN hM
  cases d5 : decide (N < 0)
  rotate_left
  · obtain ⟨f1, f2⟩ := HF.out.1 (of_decide_eq_true d5)
    have e1 : decide (n2 < ppduR (Rt.mk rm rc rv rx rg) 0) = true := by simpa using f1
    have HE1 := Lib.hid e1
    clear e1 f1
    subst f2
    have hx0 := rt_cell (r := Rt.mk rm rc rv rx rg) HG1.out 0
    have hx1 := rt_cell (r := Rt.mk rm rc rv rx rg) HG1.out 1
    have hx2 := rt_cell (r := Rt.mk rm rc rv rx rg) HG1.out 2
    have hx3 := rt_cell (r := Rt.mk rm rc rv rx rg) HG1.out 3
    have hx4 := rt_cell (r := Rt.mk rm rc rv rx rg) HG1.out 4
    dsimp only [Rt.arr] at hx0 hx1 hx2 hx3 hx4
    simp only [List.getElem?_toArray, List.getElem?_cons_zero, List.getElem?_cons_succ] at hx0 hx1 hx2 hx3 hx4
    go_wp2_with (fail)
    clear hx0 hx1 hx2 hx3 hx4
    refine (ppdu_any (Rt.mk rm rc rv rx rg) 0 w6 (HT.out.below HB.out)).mono ?_
    rintro e w7 ⟨rfl, hB⟩
    have e1 := HE1.out
    have T0 := Lib.hid (HB.out.trans (hB.mono HB.out.size))
    have T1 := Lib.hid ((hB.block _ (lt_blk HG1.out)).trans HG1.out)
    clear hB HB HG1
    have HB := T0
    have HG1 := T1
    clear T0 T1
    go_wp2
    go_ret
    exact ⟨rfl, HB.out⟩
  obtain ⟨f1, f2, f3, f4⟩ := HF.out.2 (by have := of_decide_eq_false d5; omega)
  have HF4 := Lib.hid f4
  have HN := Lib.hid (show 0 ≤ N ∧ N ≤ 1048576 from ⟨by have := of_decide_eq_false d5; omega, f3⟩)
  have e1 : decide (M ≤ N) = true := by simpa using f1
  have HE2 := Lib.hid (show decide (ppduR (Rt.mk rm rc rv rx rg) N ≤ n2) = true by simpa using f2)
  clear f1 f2 f3 f4 HF
  have hx0 := rt_cell (r := Rt.mk rm rc rv rx rg) HG1.out 0
  have hx1 := rt_cell (r := Rt.mk rm rc rv rx rg) HG1.out 1
  have hx2 := rt_cell (r := Rt.mk rm rc rv rx rg) HG1.out 2
  have hx3 := rt_cell (r := Rt.mk rm rc rv rx rg) HG1.out 3
  have hx4 := rt_cell (r := Rt.mk rm rc rv rx rg) HG1.out 4
  dsimp only [Rt.arr] at hx0 hx1 hx2 hx3 hx4
  simp only [List.getElem?_toArray, List.getElem?_cons_zero, List.getElem?_cons_succ] at hx0 hx1 hx2 hx3 hx4
  go_wp2_with (fail)
  clear hx0 hx1 hx2 hx3 hx4
  refine (ppdu_any (Rt.mk rm rc rv rx rg) N w6 (HT.out.below HB.out)).mono ?_
  rintro e w7 ⟨rfl, hB⟩
  have e2 := HE2.out
  have T0 := Lib.hid (HB.out.trans (hB.mono HB.out.size))
  have T1 := Lib.hid ((hB.block _ (lt_blk HG1.out)).trans HG1.out)
  clear hB HB HG1
  have HB := T0
  have HG1 := T1
  clear T0 T1
  cases d6 : (N == 1048576)
  rotate_left
  · go_wp2
    go_ret
    exact ⟨rfl, HB.out⟩
  have HE3 := Lib.hid (show decide (n2 < ppduR (Rt.mk rm rc rv rx rg) (N + 1)) = true by simpa using HF4.out (by simpa using d6))
  obtain ⟨g0, g1⟩ := HN.out
  have hx0 := rt_cell (r := Rt.mk rm rc rv rx rg) HG1.out 0
  have hx1 := rt_cell (r := Rt.mk rm rc rv rx rg) HG1.out 1
  have hx2 := rt_cell (r := Rt.mk rm rc rv rx rg) HG1.out 2
  have hx3 := rt_cell (r := Rt.mk rm rc rv rx rg) HG1.out 3
  have hx4 := rt_cell (r := Rt.mk rm rc rv rx rg) HG1.out 4
  dsimp only [Rt.arr] at hx0 hx1 hx2 hx3 hx4
  simp only [List.getElem?_toArray, List.getElem?_cons_zero, List.getElem?_cons_succ] at hx0 hx1 hx2 hx3 hx4
  go_wp2_with (fail)
  clear hx0 hx1 hx2 hx3 hx4
  clear g0 g1
  refine (ppdu_any (Rt.mk rm rc rv rx rg) (N + 1) w7 (HT.out.below HB.out)).mono ?_
  rintro e w8 ⟨rfl, hB⟩
  have e3 := HE3.out
  have T0 := Lib.hid (HB.out.trans (hB.mono HB.out.size))
  have T1 := Lib.hid ((hB.block _ (lt_blk HG1.out)).trans HG1.out)
  clear hB HB HG1
  have HB := T0
  have HG1 := T1
  clear T0 T1
  go_wp2
  go_ret
  exact ⟨rfl, HB.out⟩
end Go.Proofs.YtpjmpgienhdccaaDoor.airMost
