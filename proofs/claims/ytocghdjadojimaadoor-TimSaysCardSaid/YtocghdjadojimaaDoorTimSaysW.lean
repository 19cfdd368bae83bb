/-
  The walk of muezzin/muezzinlaw6.TimSays: the Go text returns true.
-/
import Derived.Test.YtocghdjadojimaaDoorTimO
import Derived.Test.YtocghdjadojimaaDoorOpenT
import Derived.WalkKit
import Derived.ProofKit
import Derived.Below
namespace Go.Proofs.YtocghdjadojimaaDoor.timSays
open Go.ChangeShapes Go.WideShapes Go.ChangeAt Go.RowKit Go.Joins
set_option linter.unusedVariables false
set_option linter.unusedSimpArgs false

theorem ref_all (q : Tm) (A : Option Addr) (n c : Nat) (w : World) (h : RowB .i64 w A n q.l) :
    Calls Tryd.prog 10 #[q.val A n c] w fun e w' => ∃ B m k, e = .returned (.tuple #[.slice B m k, .int .i64 (codeB (okT q) : Nat)]) ∧ RowB .u8 w' B m (outB (okT q) (encT q)) ∧ Below w.heap.size w w' := by
  cases hok : okT q
  · refine (ref_no q A n c w h hok).mono ?_
    rintro e w' ⟨rfl, hB⟩
    exact ⟨none, 0, 0, rfl, RowB.nil, hB⟩
  · refine (ref_yes q A n c w h hok).mono ?_
    rintro e w' ⟨g, cap, rfl, hO, hB⟩
    exact ⟨_, _, _, rfl, hO.row8 (all_wf ((encT_len q).trans (Nat.add_comm _ _)) (encT_wf q hok)), hB⟩

/-! ### THE WALK -/
set_option maxRecDepth 100000 in
set_option maxHeartbeats 8000000 in
theorem walk (f0 : Tm) (a0 : Option Addr) (n0 cp0 : Nat) (a1 : Option Addr) (len1 cap1 : Nat) (z1 : List Int) (n2 : Int) (w : World) (E : Nat → Addr) (hS : Sent w E [101, 102, 103, 104, 105, 106, 107, 108, 109, 110, 111, 112, 113, 114]) (w0 : RowB .i64 w a0 n0 f0.l) (w1 : IsRow .u8 w a1 len1 cap1 z1) (w2 : (Lit.int .i64 n2).wf = true) :
    Calls Tryd.prog 3 #[f0.val a0 n0 cp0, .slice a1 len1 cap1, .int .i64 n2] w fun e w' => e = .returned (.bool true) ∧ Below w.heap.size w w' := by
  have HS := Lib.hid (show Sent w E S14 from hS)
  have HR := Lib.hid w0
  have HR1 := Lib.hid (RowB.of_row w1)
  have hcap := w1.len_cap.1
  clear w0 w1 hS w2
  generalize z1.take len1 = xs at *
  obtain ⟨qc, qp, qg, l⟩ := f0
  dsimp only at HR
  have HB := Lib.hid ((Below.refl w.heap.size w).alloc (Nat.le_refl _) (.cells ((Tm.mk qc qp qg l).cells a0 n0 cp0) 24))
  have HG := Lib.hid (heap_alloc_last w (.cells ((Tm.mk qc qp qg l).cells a0 n0 cp0) 24))
  go_enter Tryd.func3, Tryd.ntmps3
  go_wp2_with (fail)
  generalize World.alloc w _ = w0 at *
  refine (first_any w0).mono ?_
  rintro e w1 ⟨rfl, hB⟩
  have T0 := Lib.hid (HB.out.trans (hB.mono HB.out.size))
  have T1 := Lib.hid ((hB.block _ (lt_blk HG.out)).trans HG.out)
  clear hB HB HG
  have HB := T0
  have HG := T1
  clear T0 T1
  have d3 : w1.cell? ⟨w.heap.size, 3, none⟩ = some (.slice a0 n0 cp0) := cell_of_row w1 _ 3 _ _ _ HG.out
  by_cases h60 : 60 < n0
  · have g1 : decide ((60 : Int) < (n0 : Int)) = true := by simp; omega
    have g2 : decide (60 < n0) = true := by simp; omega
    go_wp2
    go_ret
    exact ⟨rfl, HB.out⟩
  have g1 : decide ((60 : Int) < (n0 : Int)) = false := by simp; omega
  have g2 : decide (60 < n0) = false := by simp; omega
  by_cases h260 : 260 < len1
  · have g3 : decide ((260 : Int) < (len1 : Int)) = true := by simp; omega
    have g4 : decide (260 < len1) = true := by simp; omega
    go_wp2
    go_ret
    exact ⟨rfl, HB.out⟩
  have g3 : decide ((260 : Int) < (len1 : Int)) = false := by simp; omega
  have g4 : decide (260 < len1) = false := by simp; omega
  go_wp2_with (refine wpList_load_row rfl 24 (.tmp 3) rfl w.heap.size rfl 24 ((Tm.mk qc qp qg l).cells a0 n0 cp0) (0, 0) _ HG.out Tryd.underlying24 rfl sizeTim ?_)
  clear d3 g1 g2 g3 g4
  have HREF := Lib.hid (fun (w' : World) (hB : Below w.heap.size w w') => ref_all ⟨qc, qp, qg, l⟩ a0 n0 cp0 w' (HR.out.below hB))
  have HI1 := Lib.hid (fun (w' : World) (hB : Below w.heap.size w w') => is_err E (codeB (okT ⟨qc, qp, qg, l⟩)) (codeB (okT ⟨qc, qp, qg, l⟩) : Nat) w' (HS.out.below hB) (codeB_4 _))
  have HI2 := Lib.hid (fun (w' : World) (hB : Below w.heap.size w w') => is_err E (rdT xs len1) (rdT xs len1 : Nat) w' (HS.out.below hB) (rdT_4 _ _))
  refine (bytes_all ⟨qc, qp, qg, l⟩ a0 n0 cp0 E w1 (HR.out.below HB.out) (HS.out.below HB.out).four).mono ?_
  rintro e w2 ⟨B1, m1, k1, rfl, hR, -, hB⟩
  have HX := Lib.hid hR
  clear hR
  have T0 := Lib.hid (HB.out.trans (hB.mono HB.out.size))
  have T1 := Lib.hid ((hB.block _ (lt_blk HG.out)).trans HG.out)
  clear hB HB HG
  have HB := T0
  have HG := T1
  clear T0 T1
  generalize okT ⟨qc, qp, qg, l⟩ = ok at *
  generalize outB ok (encT ⟨qc, qp, qg, l⟩) = eb at *
  generalize codeB ok = cb at *
  generalize errV E cb = ev at *
  go_wp2_with (refine wpList_load_row rfl 24 (.tmp 3) rfl w.heap.size rfl 24 ((Tm.mk qc qp qg l).cells a0 n0 cp0) (0, 0) _ HG.out Tryd.underlying24 rfl sizeTim ?_)
  refine (HREF.out w2 HB.out).mono ?_
  rintro e w3 ⟨B2, m2, k2, rfl, hR, hB⟩
  have HY := Lib.hid hR
  clear hR HREF
  have T0 := Lib.hid (HB.out.trans (hB.mono HB.out.size))
  have T1 := Lib.hid ((hB.block _ (lt_blk HG.out)).trans HG.out)
  have T2 := Lib.hid (HX.out.below hB)
  clear hB HB HG HX
  have HB := T0
  have HG := T1
  have HX := T2
  clear T0 T1 T2
  go_wp2_with (fail)
  refine (read_all a1 len1 cap1 xs E w3 (HR1.out.below HB.out) (HS.out.below HB.out).four hcap).mono ?_
  rintro e w4 ⟨A3, k3, rfl, hR, hB⟩
  have T0 := Lib.hid (HB.out.trans (hB.mono HB.out.size))
  have T1 := Lib.hid ((hB.block _ (lt_blk HG.out)).trans HG.out)
  have T2 := Lib.hid (HX.out.below hB)
  have T3 := Lib.hid (HY.out.below hB)
  clear hB HB HG HX HY
  have HB := T0
  have HG := T1
  have HX := T2
  have HY := T3
  clear T0 T1 T2 T3
  have HRR := Lib.hid (fun (w' : World) (hB : Below w.heap.size w w') => refread_all a1 len1 cap1 xs w' (HR1.out.below hB))
  have HHS := Lib.hid (fun (w' : World) (hB : Below w.heap.size w w') => has_any a1 len1 cap1 xs n2 E w' (HR1.out.below hB) (HS.out.below hB).four hcap)
  have HHV := Lib.hid (show hasT xs len1 n2 = (rdT xs len1 == 0 && decide (n2 ∈ (outT xs len1).l)) from rfl)
  unfold OutR at HRR
  generalize rdT xs len1 = rd at *
  generalize outT xs len1 = p at *
  generalize hasT xs len1 n2 = hv at *
  generalize errV E rd = ev2 at *
  obtain ⟨pc, pp, pg, pl⟩ := p
  dsimp only at *
  have HP := Lib.hid hR
  clear hR HS HR HR1
  have T0 := Lib.hid (HB.out.alloc HB.out.size (.cells ((Tm.mk pc pp pg pl).cells A3 pl.length k3) 24))
  have T1 := Lib.hid (((Below.refl w4.heap.size w4).alloc (Nat.le_refl _) (.cells ((Tm.mk pc pp pg pl).cells A3 pl.length k3) 24)).block _ (lt_blk HG.out) |>.trans HG.out)
  have T2 := Lib.hid (HX.out.below ((Below.refl w4.heap.size w4).alloc (Nat.le_refl _) (.cells ((Tm.mk pc pp pg pl).cells A3 pl.length k3) 24)))
  have T3 := Lib.hid (HY.out.below ((Below.refl w4.heap.size w4).alloc (Nat.le_refl _) (.cells ((Tm.mk pc pp pg pl).cells A3 pl.length k3) 24)))
  have T4 := Lib.hid (HP.out.below ((Below.refl w4.heap.size w4).alloc (Nat.le_refl _) (.cells ((Tm.mk pc pp pg pl).cells A3 pl.length k3) 24)))
  have Hgp := Lib.hid (heap_alloc_last w4 (.cells ((Tm.mk pc pp pg pl).cells A3 pl.length k3) 24))
  clear HB HG HX HY HP
  have HB := T0
  have HG := T1
  have HX := T2
  have HY := T3
  have HP := T4
  clear T0 T1 T2 T3 T4
  go_wp2_with (refine wpList_store_row rfl 24 (.tmp 12) (.tmp 42) rfl w4.heap.size ((Tm.mk pc pp pg pl).cells A3 pl.length k3) rfl rfl 24 t0c (heap_alloc_last _ _) sizeTim rfl (Tm.oneCell _ _ _ _) ?_; rw [World.setRow_alloc_new]; generalize World.alloc w4 _ = w5 at *; generalize w4.heap.size = gp at *)
  refine (HRR.out w5 HB.out).mono ?_
  rintro e w6 ⟨A4, k4, rfl, hR, hB⟩
  have HQ := Lib.hid hR
  clear hR HRR
  have T0 := Lib.hid (HB.out.trans (hB.mono HB.out.size))
  have T1 := Lib.hid ((hB.block _ (lt_blk HG.out)).trans HG.out)
  have T2 := Lib.hid ((hB.block _ (lt_blk Hgp.out)).trans Hgp.out)
  have T3 := Lib.hid (HX.out.below hB)
  have T4 := Lib.hid (HY.out.below hB)
  have T5 := Lib.hid (HP.out.below hB)
  clear hB HB HG Hgp HX HY HP
  have HB := T0
  have HG := T1
  have Hgp := T2
  have HX := T3
  have HY := T4
  have HP := T5
  clear T0 T1 T2 T3 T4 T5
  have T0 := Lib.hid (HB.out.alloc HB.out.size (.cells ((Tm.mk pc pp pg pl).cells A4 pl.length k4) 24))
  have T1 := Lib.hid (((Below.refl w6.heap.size w6).alloc (Nat.le_refl _) (.cells ((Tm.mk pc pp pg pl).cells A4 pl.length k4) 24)).block _ (lt_blk HG.out) |>.trans HG.out)
  have T2 := Lib.hid (((Below.refl w6.heap.size w6).alloc (Nat.le_refl _) (.cells ((Tm.mk pc pp pg pl).cells A4 pl.length k4) 24)).block _ (lt_blk Hgp.out) |>.trans Hgp.out)
  have T3 := Lib.hid (HX.out.below ((Below.refl w6.heap.size w6).alloc (Nat.le_refl _) (.cells ((Tm.mk pc pp pg pl).cells A4 pl.length k4) 24)))
  have T4 := Lib.hid (HY.out.below ((Below.refl w6.heap.size w6).alloc (Nat.le_refl _) (.cells ((Tm.mk pc pp pg pl).cells A4 pl.length k4) 24)))
  have T5 := Lib.hid (HP.out.below ((Below.refl w6.heap.size w6).alloc (Nat.le_refl _) (.cells ((Tm.mk pc pp pg pl).cells A4 pl.length k4) 24)))
  have T6 := Lib.hid (HQ.out.below ((Below.refl w6.heap.size w6).alloc (Nat.le_refl _) (.cells ((Tm.mk pc pp pg pl).cells A4 pl.length k4) 24)))
  have Hgq := Lib.hid (heap_alloc_last w6 (.cells ((Tm.mk pc pp pg pl).cells A4 pl.length k4) 24))
  clear HB HG Hgp HX HY HP HQ
  have HB := T0
  have HG := T1
  have Hgp := T2
  have HX := T3
  have HY := T4
  have HP := T5
  have HQ := T6
  clear T0 T1 T2 T3 T4 T5 T6
  go_wp2_with (refine wpList_store_row rfl 24 (.tmp 14) (.tmp 47) rfl w6.heap.size ((Tm.mk pc pp pg pl).cells A4 pl.length k4) rfl rfl 24 t0c (heap_alloc_last _ _) sizeTim rfl (Tm.oneCell _ _ _ _) ?_; rw [World.setRow_alloc_new]; generalize World.alloc w6 _ = w7 at *; generalize w6.heap.size = gq at *)
  refine (same_any B1 B2 m1 k1 m2 k2 eb eb w7 HX.out HY.out).mono ?_
  rintro e w' ⟨rfl, mm, rfl⟩
  rw [sameB_refl]
  have T0 := Lib.hid (below_drewN HB.out mm)
  have T1 := Lib.hid (show (w7.drewN mm).heap[gp]? = some (.cells ((Tm.mk pc pp pg pl).cells A3 pl.length k3) 24 (0, 0)) from Hgp.out)
  have T2 := Lib.hid (show (w7.drewN mm).heap[gq]? = some (.cells ((Tm.mk pc pp pg pl).cells A4 pl.length k4) 24 (0, 0)) from Hgq.out)
  have T3 := Lib.hid (HP.out.drewN mm)
  have T4 := Lib.hid (HQ.out.drewN mm)
  clear HB HG Hgp Hgq HP HQ HX HY
  have HB := T0
  have Hgp := T1
  have Hgq := T2
  have HP := T3
  have HQ := T4
  clear T0 T1 T2 T3 T4
  generalize w7.drewN mm = w8 at *
  go_wp2_with (fail)
  refine (HI1.out w8 HB.out).mono ?_
  rintro e w9 ⟨rfl, hB⟩
  rw [show ((cb : Int) == (cb : Int)) = true by simp]
  clear HI1
  have T0 := Lib.hid (HB.out.trans (hB.mono HB.out.size))
  have T1 := Lib.hid ((hB.block _ (lt_blk Hgp.out)).trans Hgp.out)
  have T2 := Lib.hid ((hB.block _ (lt_blk Hgq.out)).trans Hgq.out)
  have T3 := Lib.hid (HP.out.below hB)
  have T4 := Lib.hid (HQ.out.below hB)
  clear hB HB Hgp Hgq HP HQ
  have HB := T0
  have Hgp := T1
  have Hgq := T2
  have HP := T3
  have HQ := T4
  clear T0 T1 T2 T3 T4
  go_wp2_with (first
    | (refine wpList_load_if (by rfl) 24 (.tmp 12) rfl gp rfl 24 ((Tm.mk pc pp pg pl).cells A3 pl.length k3) (0, 0) _ Hgp.out Tryd.underlying24 rfl sizeTim ?_)
    | (refine wpList_load_if (by rfl) 24 (.tmp 14) rfl gq rfl 24 ((Tm.mk pc pp pg pl).cells A4 pl.length k4) (0, 0) _ Hgq.out Tryd.underlying24 rfl sizeTim ?_))
  refine (sameTim_any ⟨pc, pp, pg, pl⟩ ⟨pc, pp, pg, pl⟩ A3 pl.length k3 A4 pl.length k4 w9 HP.out HQ.out).mono ?_
  rintro e w10 ⟨rfl, hB⟩
  rw [sameT_refl]
  clear Hgp HP
  have T0 := Lib.hid (HB.out.trans (hB.mono HB.out.size))
  have T1 := Lib.hid ((hB.block _ (lt_blk Hgq.out)).trans Hgq.out)
  have T2 := Lib.hid (HQ.out.below hB)
  clear hB HB Hgq HQ
  have HB := T0
  have Hgq := T1
  have HQ := T2
  clear T0 T1 T2
  go_wp2_with (fail)
  refine (HI2.out w10 HB.out).mono ?_
  rintro e w11 ⟨rfl, hB⟩
  rw [show ((rd : Int) == (rd : Int)) = true by simp]
  clear HI2
  have T0 := Lib.hid (HB.out.trans (hB.mono HB.out.size))
  have T1 := Lib.hid ((hB.block _ (lt_blk Hgq.out)).trans Hgq.out)
  have T2 := Lib.hid (HQ.out.below hB)
  clear hB HB Hgq HQ
  have HB := T0
  have Hgq := T1
  have HQ := T2
  clear T0 T1 T2
  go_wp2_with (fail)
  refine (HHS.out w11 HB.out).mono ?_
  rintro e w12 ⟨rfl, hB⟩
  clear HHS
  have T0 := Lib.hid (HB.out.trans (hB.mono HB.out.size))
  have T1 := Lib.hid ((hB.block _ (lt_blk Hgq.out)).trans Hgq.out)
  have T2 := Lib.hid (HQ.out.below hB)
  clear hB HB Hgq HQ
  have HB := T0
  have Hgq := T1
  have HQ := T2
  clear T0 T1 T2
  have d3 : w12.cell? ⟨gq, 3, none⟩ = some (.slice A4 pl.length k4) := cell_of_row w12 _ 3 _ _ _ Hgq.out
  by_cases hr : rd = 0
  · subst hr
    have HV2 := Lib.hid (show decide (n2 ∈ pl) = hv by rw [HHV.out]; simp)
    go_wp2_with (fail)
    refine (refHas_any A4 pl.length k4 pl n2 w12 HQ.out).mono ?_
    rintro e w' ⟨rfl, rfl⟩
    rw [HV2.out]
    clear HV2 HHV
    cases hv
    · go_wp2
      go_ret
      exact ⟨rfl, HB.out⟩
    · go_wp2
      go_ret
      exact ⟨rfl, HB.out⟩
  · have hz : ((rd : Int) == 0) = false := by simp; omega
    have hvf : hv = false := by rw [HHV.out]; simp [hr]
    subst hvf
    clear HHV
    go_wp2
    go_ret
    exact ⟨rfl, HB.out⟩
end Go.Proofs.YtocghdjadojimaaDoor.timSays
