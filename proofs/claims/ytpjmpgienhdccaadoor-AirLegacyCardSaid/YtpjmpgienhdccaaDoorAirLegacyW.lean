/-
  The walk of muezzin/muezzinlaw9.AirLegacy: the Go text returns true.
-/
import Derived.Test.YtpjmpgienhdccaaDoorAirL
import Derived.Deep.RegionHeld3
namespace Go.Proofs.YtpjmpgienhdccaaDoor.airLegacy
open Go.ChangeShapes Go.WideShapes Go.ChangeAt Go.RowKit Go.Joins Go.Deep
set_option linter.unusedVariables false
set_option linter.unusedSimpArgs false

theorem leg : ∀ n : Nat, n < 8 → validR ⟨1, (n : Int), 1, 20, 0⟩ = true ∧ preR ⟨1, (n : Int), 1, 20, 0⟩ = 200 ∧ symR ⟨1, (n : Int), 1, 20, 0⟩ = 40 ∧ 24 ≤ bitsR ⟨1, (n : Int), 1, 20, 0⟩ ∧ bitsR ⟨1, (n : Int), 1, 20, 0⟩ ≤ 216 := by decide +kernel
theorem bits_k : ∀ n : Nat, n < 8 → ([24, 36, 48, 72, 96, 144, 192, 216] : List Int).getD n 0 = bitsR ⟨1, (n : Int), 1, 20, 0⟩ := by decide +kernel
theorem lit_at (n : Nat) (hn : n < 8) : ∀ h, ([.int .i64 24, .int .i64 36, .int .i64 48, .int .i64 72, .int .i64 96, .int .i64 144, .int .i64 192, .int .i64 216] : List Value)[n]'h = .int .i64 (bitsR ⟨1, (n : Int), 1, 20, 0⟩) := by
  rw [← bits_k n hn]
  match n, hn with
  | 0, _ | 1, _ | 2, _ | 3, _ | 4, _ | 5, _ | 6, _ | 7, _ => exact fun _ => rfl
theorem facts {k : Nat} {q : Int} (hk : k < 8) (hq : 0 ≤ q ∧ q < 4096) : (240 ≤ ppduR ⟨1, (k : Int), 1, 20, 0⟩ q ∧ ppduR ⟨1, (k : Int), 1, 20, 0⟩ q ≤ 60000000) ∧ (24 ≤ bitsR ⟨1, (k : Int), 1, 20, 0⟩ ∧ bitsR ⟨1, (k : Int), 1, 20, 0⟩ ≤ 216) ∧
    ppduR ⟨1, (k : Int), 1, 20, 0⟩ q = 200 + 40 * ((ppduR ⟨1, (k : Int), 1, 20, 0⟩ q - 200) / 40) ∧
    22 + 8 * q ≤ bitsR ⟨1, (k : Int), 1, 20, 0⟩ * ((ppduR ⟨1, (k : Int), 1, 20, 0⟩ q - 200) / 40) ∧
    bitsR ⟨1, (k : Int), 1, 20, 0⟩ * ((ppduR ⟨1, (k : Int), 1, 20, 0⟩ q - 200) / 40 - 1) < 22 + 8 * q ∧
    (0 ≤ bitsR ⟨1, (k : Int), 1, 20, 0⟩ * ((ppduR ⟨1, (k : Int), 1, 20, 0⟩ q - 200) / 40) ∧ bitsR ⟨1, (k : Int), 1, 20, 0⟩ * ((ppduR ⟨1, (k : Int), 1, 20, 0⟩ q - 200) / 40) ≤ 216 * 349527) ∧
    (0 ≤ bitsR ⟨1, (k : Int), 1, 20, 0⟩ * ((ppduR ⟨1, (k : Int), 1, 20, 0⟩ q - 200) / 40 - 1) ∧ bitsR ⟨1, (k : Int), 1, 20, 0⟩ * ((ppduR ⟨1, (k : Int), 1, 20, 0⟩ q - 200) / 40 - 1) ≤ 216 * 349527) := by
  obtain ⟨hv, h1, h2, h3, h4⟩ := leg k hk
  have hok : okA ⟨1, (k : Int), 1, 20, 0⟩ q = true := okA_iff.2 ⟨hv, hq.1, by omega⟩
  have e := ppdu_of hok
  have hle := ppdu_le (r := ⟨1, (k : Int), 1, 20, 0⟩) (n := q)
  rw [h1, h2] at e
  generalize bitsR ⟨1, (k : Int), 1, 20, 0⟩ = b at *
  have s1 := syms_lo (b := b) (n := q) (by omega)
  have s2 := syms_hi (b := b) (n := q) (by omega)
  have s3 := syms_pos (b := b) (n := q) (by omega) hq.1
  have s4 := syms_le (b := b) (n := q) h3 hq.1 (by omega)
  have p1 := prod_in (a := b) (b := symsA b q) (A := 216) (B := 349527) (by omega) h4 (by omega) s4
  have p2 := prod_in (a := b) (b := symsA b q - 1) (A := 216) (B := 349527) (by omega) h4 (by omega) (by omega)
  generalize symsA b q = S at *
  have hS : (ppduR ⟨1, (k : Int), 1, 20, 0⟩ q - 200) / 40 = S := by omega
  rw [hS]
  exact ⟨⟨by omega, hle.2⟩, ⟨h3, h4⟩, by omega, s1, s2, p1, p2⟩
set_option maxRecDepth 100000 in
set_option maxHeartbeats 8000000 in
theorem walk (n0 : Int) (n1 : Int) (w : World) (hS : Tab w) (w0 : (Lit.int .i64 n0).wf = true) (w1 : (Lit.int .i64 n1).wf = true) :
    Calls Tryd.prog 7 #[.int .i64 n0, .int .i64 n1] w fun e w' => e = .returned (.bool true) ∧ Below w.heap.size w w' := by
  have HT := Lib.hid hS
  have HW0 := Lib.hid w0
  have HW1 := Lib.hid w1
  clear hS w0 w1
  go_enter Tryd.func7, Tryd.ntmps7
  go_wp2_with (fail)
  refine (first_any w HT.out).mono ?_
  rintro e w2 ⟨rfl, hB⟩
  have HB := Lib.hid hB
  clear hB
  have m0 := nmod_lo n0 8 (by omega)
  have m1 := nmod_hi n0 8 (by omega)
  go_wp2_with (fail)
  refine (number_any n0 8 w2 HW0.out (by omega) (by omega)).mono ?_
  rintro e w' ⟨rfl, rfl⟩
  generalize nmod n0 8 = c at *
  have Hc := Lib.hid (And.intro m0 m1)
  clear m0 m1
  have m0 := nmod_lo n1 4096 (by omega)
  have m1 := nmod_hi n1 4096 (by omega)
  go_wp2_with (fail)
  refine (number_any n1 4096 w2 HW1.out (by omega) (by omega)).mono ?_
  rintro e w' ⟨rfl, rfl⟩
  generalize nmod n1 4096 = q at *
  have Hq := Lib.hid (And.intro m0 m1)
  clear m0 m1
  obtain ⟨k, hk⟩ := Int.eq_ofNat_of_zero_le Hc.out.1
  have hk8 : k < 8 := by have := Hc.out.2; omega
  subst hk
  have HLB := Lib.hid (lit_at k hk8)
  have hlit := HLB.out
  go_wp2_with (fail)
  have T0 : ∀ o1, Below w.heap.size w (World.alloc w2 o1) := fun o1 => HB.out.alloc HB.out.size o1
  have SZ : ∀ o1, (World.alloc w2 o1).heap.size = w2.heap.size + 1 := fun o1 => by simp
  generalize hw3 : World.alloc w2 _ = w3
  have T1 := Lib.hid (show Below w.heap.size w w3 from hw3 ▸ T0 _)
  have SZ3 := Lib.hid (show w3.heap.size = w2.heap.size + 1 from hw3 ▸ SZ _)
  clear T0 SZ hw3 HB hlit HLB
  have HB := Lib.hid (T1.out.alloc T1.out.size (.cells (Rt.arr ⟨1, (k : Int), 1, 20, 0⟩) 27))
  have HG := Lib.hid (heap_alloc_last w3 (.cells (Rt.arr ⟨1, (k : Int), 1, 20, 0⟩) 27))
  rw [SZ3.out] at HG
  clear T1 SZ3
  generalize World.alloc w3 _ = w4 at *
  have HP := Lib.hid (leg k hk8)
  generalize w2.heap.size + 1 = g at *
  have HF := Lib.hid (facts hk8 Hq.out)
  refine (ppdu_any ⟨1, (k : Int), 1, 20, 0⟩ q w4 (HT.out.below HB.out)).mono ?_
  rintro e w5 ⟨rfl, hB⟩
  have T0 := Lib.hid (HB.out.trans (hB.mono HB.out.size))
  have T1 := Lib.hid ((hB.block _ (lt_blk HG.out)).trans HG.out)
  clear hB HB HG
  have HB := T0
  have HG := T1
  clear T0 T1
  have HM1 := Lib.hid (ppdu_no (show okA ⟨1, (k : Int), 1, 20, 0⟩ (-1) = false by unfold okA; simp))
  have HM2 := Lib.hid (ppdu_no (show okA ⟨1, (k : Int), 1, 20, 0⟩ 1048577 = false by unfold okA; simp))
  have HC1 := Lib.hid (fun (w' : World) (h : Tab w') => ppdu_any ⟨1, (k : Int), 1, 20, 0⟩ (-1) w' h)
  have HC2 := Lib.hid (fun (w' : World) (h : Tab w') => ppdu_any ⟨1, (k : Int), 1, 20, 0⟩ 1048577 w' h)
  rw [HM1.out] at HC1
  rw [HM2.out] at HC2
  clear HM1 HM2
  have HX := Lib.hid (show w5.cell? ⟨g, 0, none⟩ = some (.int .i64 1) ∧ w5.cell? ⟨g, 1, none⟩ = some (.int .i64 (k : Int)) ∧ w5.cell? ⟨g, 2, none⟩ = some (.int .i64 1) ∧ w5.cell? ⟨g, 3, none⟩ = some (.int .i64 20) ∧ w5.cell? ⟨g, 4, none⟩ = some (.int .i64 0) from ⟨rt_cell (r := ⟨1, (k : Int), 1, 20, 0⟩) HG.out 0, rt_cell (r := ⟨1, (k : Int), 1, 20, 0⟩) HG.out 1, rt_cell (r := ⟨1, (k : Int), 1, 20, 0⟩) HG.out 2, rt_cell (r := ⟨1, (k : Int), 1, 20, 0⟩) HG.out 3, rt_cell (r := ⟨1, (k : Int), 1, 20, 0⟩) HG.out 4⟩)
  generalize ppduR ⟨1, (k : Int), 1, 20, 0⟩ q = t at *
  generalize bitsR ⟨1, (k : Int), 1, 20, 0⟩ = b at *
  obtain ⟨q0, q1⟩ := Hq.out
  obtain ⟨⟨t0, t1⟩, ⟨b0, b1⟩, f1, f2, f3, f4, f5⟩ := HF.out
  have e1 : 200 + 40 * ((t - 200) / 40) = t := f1.symm
  clear f1 HF
  have e2 : decide (22 + 8 * q ≤ b * ((t - 200) / 40)) = true := by simpa using f2
  have e3 : decide (b * ((t - 200) / 40 - 1) < 22 + 8 * q) = true := by simpa using f3
  obtain ⟨hx0, hx1, hx2, hx3, hx4⟩ := HX.out
  go_wp2_with (fail)
  clear hx0 hx1 hx2 hx3 hx4
  refine (HC1.out w5 (HT.out.below HB.out)).mono ?_
  rintro e w6 ⟨rfl, hB⟩
  have T0 := Lib.hid (HB.out.trans (hB.mono HB.out.size))
  have T1 := Lib.hid ((hB.block _ (lt_blk HG.out)).trans HG.out)
  clear hB HB HG
  have HB := T0
  have HG := T1
  clear T0 T1
  have hx0 := rt_cell (r := ⟨1, (k : Int), 1, 20, 0⟩) HG.out 0
  have hx1 := rt_cell (r := ⟨1, (k : Int), 1, 20, 0⟩) HG.out 1
  have hx2 := rt_cell (r := ⟨1, (k : Int), 1, 20, 0⟩) HG.out 2
  have hx3 := rt_cell (r := ⟨1, (k : Int), 1, 20, 0⟩) HG.out 3
  have hx4 := rt_cell (r := ⟨1, (k : Int), 1, 20, 0⟩) HG.out 4
  dsimp only [Rt.arr] at hx0 hx1 hx2 hx3 hx4
  simp only [List.getElem?_toArray, List.getElem?_cons_zero, List.getElem?_cons_succ] at hx0 hx1 hx2 hx3 hx4
  go_wp2_with (fail)
  clear hx0 hx1 hx2 hx3 hx4
  refine (HC2.out w6 (HT.out.below HB.out)).mono ?_
  rintro e w7 ⟨rfl, hB⟩
  have T0 := Lib.hid (HB.out.trans (hB.mono HB.out.size))
  have T1 := Lib.hid ((hB.block _ (lt_blk HG.out)).trans HG.out)
  clear hB HB HG
  have HB := T0
  have HG := T1
  clear T0 T1
  go_wp2_with (fail)
  refine (mostair_any ⟨0, 0, 0, 0, 0⟩ 1099511627776 w7 (HT.out.below HB.out)).mono ?_
  rintro e w8 ⟨rfl, hB⟩
  rw [most_no1 (show validR ⟨0, 0, 0, 0, 0⟩ = false by decide +kernel)]
  have T0 := Lib.hid (HB.out.trans (hB.mono HB.out.size))
  clear hB HB
  have HB := T0
  clear T0
  go_wp2
  go_ret
  exact ⟨rfl, HB.out⟩
end Go.Proofs.YtpjmpgienhdccaaDoor.airLegacy
