/-
  The walk of muezzin/muezzinlaw9.AirGrows: the Go text returns true.
-/
import Derived.Test.YtpjmpgienhdccaaDoorAirL
import Derived.Deep.RegionHeld3
namespace Go.Proofs.YtpjmpgienhdccaaDoor.airGrows
open Go.ChangeShapes Go.WideShapes Go.ChangeAt Go.RowKit Go.Joins Go.Deep
set_option linter.unusedVariables false
set_option linter.unusedSimpArgs false

theorem facts {r : Rt} {p q : Int} (hv : validR r = true) (hp : 0 ≤ p ∧ p < 65536) (hq : 0 ≤ q ∧ q < 65536) :
    (0 < ppduR r p ∧ ppduR r p ≤ 60000000) ∧ (0 ≤ ppduR r q ∧ ppduR r q ≤ 60000000) ∧ (p ≤ q → ppduR r p ≤ ppduR r q) ∧ ppduR r p ≤ ppduR r (p + q) ∧ ppduR r q ≤ ppduR r (p + q) ∧ ppduR r (p + q) < ppduR r p + ppduR r q ∧ totR r p = ppduR r p + 480 := by
  have hok : okA r p = true := okA_iff.2 ⟨hv, hp.1, by omega⟩
  refine ⟨⟨by have := ppdu_pos hok; omega, ppdu_le.2⟩, ⟨ppdu_le.1, ppdu_le.2⟩, fun h => ppdu_mono hp.1 h (by omega), ppdu_mono hp.1 (by omega) (by omega), ppdu_mono hq.1 (by omega) (by omega), ppdu_two hv hp.1 hq.1 (by omega), tot_of hok⟩
set_option maxRecDepth 100000 in
set_option maxHeartbeats 8000000 in
theorem walk (n0 : Int) (n1 : Int) (n2 : Int) (n3 : Int) (w : World) (hS : Tab w) (w0 : (Lit.int .i64 n0).wf = true) (w1 : (Lit.int .i64 n1).wf = true) (w2 : (Lit.int .i64 n2).wf = true) (w3 : (Lit.int .i64 n3).wf = true) :
    Calls Tryd.prog 5 #[.int .i64 n0, .int .i64 n1, .int .i64 n2, .int .i64 n3] w fun e w' => e = .returned (.bool true) ∧ Below w.heap.size w w' := by
  have HT := Lib.hid hS
  have HW0 := Lib.hid w0
  have HW1 := Lib.hid w1
  have HW2 := Lib.hid w2
  have HW3 := Lib.hid w3
  clear hS w0 w1 w2 w3
  go_enter Tryd.func5, Tryd.ntmps5
  go_wp2_with (fail)
  refine (first_any w HT.out).mono ?_
  rintro e w2 ⟨rfl, hB⟩
  have HB := Lib.hid hB
  clear hB
  have m0 := nmod_lo n0 4 (by omega)
  have m1 := nmod_hi n0 4 (by omega)
  go_wp2_with (fail)
  refine (number_any n0 4 w2 HW0.out (by omega) (by omega)).mono ?_
  rintro e w' ⟨rfl, rfl⟩
  generalize nmod n0 4 = m' at *
  have HM4 := Lib.hid (show 1 ≤ m' + 1 ∧ m' + 1 ≤ 4 by omega)
  go_wp2_with (fail)
  refine (all_any (m' + 1) w2).mono ?_
  clear m0 m1
  generalize m' + 1 = m at *
  rintro e w3 ⟨A, c, rfl, hr, hc, hB⟩
  have HR := Lib.hid hr
  clear hr hc
  have T0 := Lib.hid (HB.out.trans (hB.mono HB.out.size))
  clear hB HB
  have HB := T0
  clear T0
  have HAG := Lib.hid (fun (i : Nat) (hi : i < (allR m).length) => all_get (m := m) d0 hi)
  have hpos : 0 < (allR m).length := all_pos HM4.out.1 HM4.out.2
  have hle : (allR m).length ≤ 1152 := all_le m
  generalize allR m = l at *
  generalize l.length = n at *
  obtain ⟨b, off, rfl, -⟩ := HR.out.els hpos
  have hn0 : ((n : Int) == 0) = false := by simp; omega
  have i0 := nmod_lo n1 n (by omega)
  have i1 := nmod_hi n1 n (by omega)
  go_wp2_with (fail)
  refine (number_any n1 n w3 HW1.out (by omega) (by omega)).mono ?_
  rintro e w' ⟨rfl, rfl⟩
  obtain ⟨q1, hq1⟩ := Int.eq_ofNat_of_zero_le i0
  rw [hq1] at i1 ⊢
  have hiq1 : q1 < n := by omega
  clear i0 hq1
  have HC1 := Lib.hid (row_at HR.out q1 hiq1)
  obtain ⟨hv, hm⟩ := HAG.out q1 hiq1
  have HV1 := Lib.hid hv
  have HM1 := Lib.hid hm
  clear hv hm
  generalize l.getD q1 d0 = r at *
  obtain ⟨rm, rc, rv, rx, rg⟩ := r
  have HG1 := Lib.hid (heap_alloc_last w3 (.cells (Rt.arr ⟨rm, rc, rv, rx, rg⟩) 27))
  have T0 := Lib.hid (HB.out.alloc HB.out.size (.cells (Rt.arr ⟨rm, rc, rv, rx, rg⟩) 27))
  have T1 := Lib.hid (HR.out.below ((Below.refl w3.heap.size w3).alloc (Nat.le_refl _) (.cells (Rt.arr ⟨rm, rc, rv, rx, rg⟩) 27)))
  clear HB HR
  have HB := T0
  have HR := T1
  clear T0 T1
  go_wp2_with (refine wpList_load_mid rfl 27 (.tmp 30) rfl b (off + q1 * 5) rfl [.int .i64 rm, .int .i64 rc, .int .i64 rv, .int .i64 rx, .int .i64 rg] _ HC1.out Tryd.underlying27 rfl sizeRate ?_)
  generalize World.alloc w3 _ = w4 at *
  generalize w3.heap.size = g1 at *
  clear HC1
  have m0 := nmod_lo n2 65536 (by omega)
  have m1 := nmod_hi n2 65536 (by omega)
  refine (number_any n2 65536 w4 HW2.out (by omega) (by omega)).mono ?_
  rintro e w' ⟨rfl, rfl⟩
  generalize nmod n2 65536 = p at *
  have Hp := Lib.hid (And.intro m0 m1)
  clear m0 m1
  have m0 := nmod_lo n3 65536 (by omega)
  have m1 := nmod_hi n3 65536 (by omega)
  go_wp2_with (fail)
  refine (number_any n3 65536 w4 HW3.out (by omega) (by omega)).mono ?_
  rintro e w' ⟨rfl, rfl⟩
  generalize nmod n3 65536 = q at *
  have Hq := Lib.hid (And.intro m0 m1)
  clear m0 m1
  have HF := Lib.hid (facts (r := Rt.mk rm rc rv rx rg) (p := p) (q := q) HV1.out Hp.out Hq.out)
  obtain ⟨p0, p1⟩ := Hp.out
  obtain ⟨q0, q1⟩ := Hq.out
  have hx0 := rt_cell (r := Rt.mk rm rc rv rx rg) HG1.out 0
  have hx1 := rt_cell (r := Rt.mk rm rc rv rx rg) HG1.out 1
  have hx2 := rt_cell (r := Rt.mk rm rc rv rx rg) HG1.out 2
  have hx3 := rt_cell (r := Rt.mk rm rc rv rx rg) HG1.out 3
  have hx4 := rt_cell (r := Rt.mk rm rc rv rx rg) HG1.out 4
  dsimp only [Rt.arr] at hx0 hx1 hx2 hx3 hx4
  simp only [List.getElem?_toArray, List.getElem?_cons_zero, List.getElem?_cons_succ] at hx0 hx1 hx2 hx3 hx4
  go_wp2_with (fail)
  clear hx0 hx1 hx2 hx3 hx4
  refine (ppdu_any (Rt.mk rm rc rv rx rg) p w4 (HT.out.below HB.out)).mono ?_
  rintro e w5 ⟨rfl, hB⟩
  have T0 := Lib.hid (HB.out.trans (hB.mono HB.out.size))
  have T1 := Lib.hid ((hB.block _ (lt_blk HG1.out)).trans HG1.out)
  clear hB HB HG1
  have HB := T0
  have HG1 := T1
  clear T0 T1
  have hx0 := rt_cell (r := Rt.mk rm rc rv rx rg) HG1.out 0
  have hx1 := rt_cell (r := Rt.mk rm rc rv rx rg) HG1.out 1
  have hx2 := rt_cell (r := Rt.mk rm rc rv rx rg) HG1.out 2
  have hx3 := rt_cell (r := Rt.mk rm rc rv rx rg) HG1.out 3
  have hx4 := rt_cell (r := Rt.mk rm rc rv rx rg) HG1.out 4
  dsimp only [Rt.arr] at hx0 hx1 hx2 hx3 hx4
  simp only [List.getElem?_toArray, List.getElem?_cons_zero, List.getElem?_cons_succ] at hx0 hx1 hx2 hx3 hx4
  go_wp2_with (fail)
  clear hx0 hx1 hx2 hx3 hx4
  refine (ppdu_any (Rt.mk rm rc rv rx rg) q w5 (HT.out.below HB.out)).mono ?_
  rintro e w6 ⟨rfl, hB⟩
  have T0 := Lib.hid (HB.out.trans (hB.mono HB.out.size))
  have T1 := Lib.hid ((hB.block _ (lt_blk HG1.out)).trans HG1.out)
  clear hB HB HG1
  have HB := T0
  have HG1 := T1
  clear T0 T1
  have hx0 := rt_cell (r := Rt.mk rm rc rv rx rg) HG1.out 0
  have hx1 := rt_cell (r := Rt.mk rm rc rv rx rg) HG1.out 1
  have hx2 := rt_cell (r := Rt.mk rm rc rv rx rg) HG1.out 2
  have hx3 := rt_cell (r := Rt.mk rm rc rv rx rg) HG1.out 3
  have hx4 := rt_cell (r := Rt.mk rm rc rv rx rg) HG1.out 4
  dsimp only [Rt.arr] at hx0 hx1 hx2 hx3 hx4
  simp only [List.getElem?_toArray, List.getElem?_cons_zero, List.getElem?_cons_succ] at hx0 hx1 hx2 hx3 hx4
  go_wp2_with (fail)
  clear hx0 hx1 hx2 hx3 hx4
  refine (ppdu_any (Rt.mk rm rc rv rx rg) (p + q) w6 (HT.out.below HB.out)).mono ?_
  rintro e w7 ⟨rfl, hB⟩
  have T0 := Lib.hid (HB.out.trans (hB.mono HB.out.size))
  have T1 := Lib.hid ((hB.block _ (lt_blk HG1.out)).trans HG1.out)
  clear hB HB HG1
  have HB := T0
  have HG1 := T1
  clear T0 T1
  have HTO := Lib.hid (fun (w' : World) (h : Tab w') => total_any (Rt.mk rm rc rv rx rg) p w' h)
  rw [HF.out.2.2.2.2.2.2] at HTO
  generalize ppduR (Rt.mk rm rc rv rx rg) p = x at *
  generalize ppduR (Rt.mk rm rc rv rx rg) q = y at *
  generalize ppduR (Rt.mk rm rc rv rx rg) (p + q) = z at *
  obtain ⟨⟨x0, x1⟩, ⟨y0, y1⟩, hpq, hxz, hyz, hxy, -⟩ := HF.out
  have HPQ := Lib.hid hpq
  clear hpq
  have e1 : decide (0 < x) = true := by simpa using x0
  have e2 : decide (x ≤ z) = true := by simpa using hxz
  have e3 : decide (y ≤ z) = true := by simpa using hyz
  have e4 : decide (z < x + y) = true := by simpa using hxy
  clear HF
  cases e5 : decide (q < p)
  · have e6 : decide (x ≤ y) = true := by have := of_decide_eq_false e5; simpa using HPQ.out (by omega)
    have hx0 := rt_cell (r := Rt.mk rm rc rv rx rg) HG1.out 0
    have hx1 := rt_cell (r := Rt.mk rm rc rv rx rg) HG1.out 1
    have hx2 := rt_cell (r := Rt.mk rm rc rv rx rg) HG1.out 2
    have hx3 := rt_cell (r := Rt.mk rm rc rv rx rg) HG1.out 3
    have hx4 := rt_cell (r := Rt.mk rm rc rv rx rg) HG1.out 4
    dsimp only [Rt.arr] at hx0 hx1 hx2 hx3 hx4
    simp only [List.getElem?_toArray, List.getElem?_cons_zero, List.getElem?_cons_succ] at hx0 hx1 hx2 hx3 hx4
    go_wp2_with (fail)
    clear hx0 hx1 hx2 hx3 hx4
    refine (HTO.out w7 (HT.out.below HB.out)).mono ?_
    rintro e w8 ⟨rfl, hB⟩
    have T0 := Lib.hid (HB.out.trans (hB.mono HB.out.size))
    have T1 := Lib.hid ((hB.block _ (lt_blk HG1.out)).trans HG1.out)
    clear hB HB HG1
    have HB := T0
    have HG1 := T1
    clear T0 T1
    go_wp2_with (fail)
    refine (answer_any w8 (HT.out.below HB.out)).mono ?_
    rintro e w9 ⟨rfl, hB⟩
    have T0 := Lib.hid (HB.out.trans (hB.mono HB.out.size))
    have T1 := Lib.hid ((hB.block _ (lt_blk HG1.out)).trans HG1.out)
    clear hB HB HG1
    have HB := T0
    have HG1 := T1
    clear T0 T1
    go_wp2
    go_ret
    exact ⟨rfl, HB.out⟩
  have hx0 := rt_cell (r := Rt.mk rm rc rv rx rg) HG1.out 0
  have hx1 := rt_cell (r := Rt.mk rm rc rv rx rg) HG1.out 1
  have hx2 := rt_cell (r := Rt.mk rm rc rv rx rg) HG1.out 2
  have hx3 := rt_cell (r := Rt.mk rm rc rv rx rg) HG1.out 3
  have hx4 := rt_cell (r := Rt.mk rm rc rv rx rg) HG1.out 4
  dsimp only [Rt.arr] at hx0 hx1 hx2 hx3 hx4
  simp only [List.getElem?_toArray, List.getElem?_cons_zero, List.getElem?_cons_succ] at hx0 hx1 hx2 hx3 hx4
  go_wp2_with (fail)
  clear hx0 hx1 hx2 hx3 hx4
  refine (HTO.out w7 (HT.out.below HB.out)).mono ?_
  rintro e w8 ⟨rfl, hB⟩
  have T0 := Lib.hid (HB.out.trans (hB.mono HB.out.size))
  have T1 := Lib.hid ((hB.block _ (lt_blk HG1.out)).trans HG1.out)
  clear hB HB HG1
  have HB := T0
  have HG1 := T1
  clear T0 T1
  go_wp2_with (fail)
  refine (answer_any w8 (HT.out.below HB.out)).mono ?_
  rintro e w9 ⟨rfl, hB⟩
  have T0 := Lib.hid (HB.out.trans (hB.mono HB.out.size))
  have T1 := Lib.hid ((hB.block _ (lt_blk HG1.out)).trans HG1.out)
  clear hB HB HG1
  have HB := T0
  have HG1 := T1
  clear T0 T1
  go_wp2
  go_ret
  exact ⟨rfl, HB.out⟩
end Go.Proofs.YtpjmpgienhdccaaDoor.airGrows
