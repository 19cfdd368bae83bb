/-
  The walk of muezzin/muezzinlaw5.ActSays: the Go text returns true.
-/
import Derived.Test.YtjgingfcfmpfaaaDoorActX
import Derived.Test.YtjgingfcfmpfaaaDoorActT
import Derived.Test.YtjgingfcfmpfaaaDoorActV
import Derived.Test.YtjgingfcfmpfaaaDoorOpenA
import Derived.Test.YtjgingfcfmpfaaaDoorErr
import Derived.WalkKit
import Derived.ProofKit
import Derived.Below
namespace Go.Proofs.YtjgingfcfmpfaaaDoor.actSays
open Go.ChangeShapes Go.WideShapes Go.ChangeAt Go.RowKit Go.Joins
set_option linter.unusedVariables false
set_option linter.unusedSimpArgs false

/-! ### THE WALK -/
set_option maxRecDepth 100000 in
set_option maxHeartbeats 8000000 in
theorem walk (f0 : Adf) (f1 : Dlf) (a2 : Option Addr) (len2 cap2 : Nat) (z2 : List Int) (w : World) (E : Nat → Addr) (hS : Sent w E [101, 102, 103, 104, 105, 106, 107, 108, 109, 110, 111, 112, 113, 114]) (w0 : IsAdd f0) (w1 : IsDel f1) (w2 : IsRow .u8 w a2 len2 cap2 z2) :
    Calls Tryd.prog 3 #[f0.val, f1.val, .slice a2 len2 cap2] w fun e w' => e = .returned (.bool true) ∧ Below w.heap.size w w' := by
  have HS := Lib.hid hS
  have HWa := Lib.hid w0
  have HWd := Lib.hid w1
  have HI := Lib.hid w2
  clear w0 w1 w2 hS
  have HB0 := Lib.hid (show Below w.heap.size w ((w.alloc (.cells f0.cells 25)).alloc (.cells f1.cells 27)) from ((Below.refl w.heap.size w).alloc (Nat.le_refl _) _).alloc (by simp) _)
  have HGa := Lib.hid (show ((w.alloc (.cells f0.cells 25)).alloc (.cells f1.cells 27)).heap[w.heap.size]? = some (.cells f0.cells 25 (0, 0)) from (heap_alloc_old _ _ (by simp)).trans (heap_alloc_new w _))
  have HGd := Lib.hid (show ((w.alloc (.cells f0.cells 25)).alloc (.cells f1.cells 27)).heap[w.heap.size + 1]? = some (.cells f1.cells 27 (0, 0)) from by have := heap_alloc_new (w.alloc (.cells f0.cells 25)) (.cells f1.cells 27); rwa [show (w.alloc (.cells f0.cells 25)).heap.size = w.heap.size + 1 by simp] at this)
  have HS0 := Lib.hid (HS.out.below HB0.out)
  have HRb := Lib.hid ((RowB.of_row HI.out).below HB0.out)
  have hcap := HI.out.len_cap.1
  clear HS HI
  obtain ⟨xs, hxs⟩ : ∃ xs, xs = z2.take len2 := ⟨_, rfl⟩
  rw [← hxs] at HRb
  clear hxs
  go_enter Tryd.func3, Tryd.ntmps3
  go_wp2_with (fail)
  generalize World.alloc (World.alloc w _) _ = w0 at *
  refine (first_any w0).mono ?_
  rintro e w1 ⟨rfl, hB⟩
  have HB := Lib.hid hB
  clear hB
  cases hlen : decide ((60 : Int) < (len2 : Int))
  case true =>
    go_wp2
    go_ret
    exact ⟨rfl, HB0.out.trans (HB.out.mono HB0.out.size)⟩
  have HGl := Lib.hid ((HB.out.block _ (lt_blk HGa.out)).trans HGa.out)
  go_wp2_with (refine wpList_load_row rfl 25 (.tmp 3) rfl w.heap.size rfl 25 f0.cells (0, 0) _ HGl.out Tryd.underlying25 rfl sizeAdd ?_)
  clear HGl
  refine (add_all f0 E w1 HWa.out.t HWa.out.f HWa.out.b (HS0.out.below HB.out).four).mono ?_
  rintro e w2 ⟨Ap, np, cp, rfl, hR, -, hB⟩
  have HRp := Lib.hid hR
  clear hR
  have T0 := Lib.hid (HB.out.trans (hB.mono HB.out.size))
  clear hB
  clear HB
  have HB := T0
  clear T0
  generalize hve : errV E (codeB (okAdd f0)) = vep at *
  have HVEp := Lib.hid hve
  clear hve
  have HGl := Lib.hid ((HB.out.block _ (lt_blk HGd.out)).trans HGd.out)
  go_wp2_with (refine wpList_load_row rfl 27 (.tmp 4) rfl (w.heap.size + 1) rfl 27 f1.cells (0, 0) _ HGl.out Tryd.underlying27 rfl sizeDel ?_)
  clear HGl
  refine (del_all f1 E w2 HWd.out.t HWd.out.f HWd.out.b (HS0.out.below HB.out).four).mono ?_
  rintro e w3 ⟨Aq, nq, cq, rfl, hR, -, hB⟩
  have HRq := Lib.hid hR
  clear hR
  have T0 := Lib.hid (HB.out.trans (hB.mono HB.out.size))
  have T1 := Lib.hid (HRp.out.below hB)
  clear hB
  clear HB HRp
  have HB := T0
  have HRp := T1
  clear T0 T1
  generalize hve : errV E (codeB (okDel f1)) = veq at *
  have HVEq := Lib.hid hve
  clear hve
  have HGl := Lib.hid ((HB.out.block _ (lt_blk HGa.out)).trans HGa.out)
  go_wp2_with (refine wpList_load_row rfl 25 (.tmp 3) rfl w.heap.size rfl 25 f0.cells (0, 0) _ HGl.out Tryd.underlying25 rfl sizeAdd ?_)
  clear HGl
  refine (refAdd_all f0 w3 HWa.out.t HWa.out.f HWa.out.b).mono ?_
  rintro e w4 ⟨Ax, nx, cx, rfl, hR, -, hB⟩
  have HRx := Lib.hid hR
  clear hR
  have T0 := Lib.hid (HB.out.trans (hB.mono HB.out.size))
  have T1 := Lib.hid (HRp.out.below hB)
  have T2 := Lib.hid (HRq.out.below hB)
  clear hB
  clear HB HRp HRq
  have HB := T0
  have HRp := T1
  have HRq := T2
  clear T0 T1 T2
  have HCx := Lib.hid (codeB_4 (okAdd f0))
  generalize codeB (okAdd f0) = cbx at *
  generalize outB (okAdd f0) (encAdd f0) = zsx at *
  have HGl := Lib.hid ((HB.out.block _ (lt_blk HGd.out)).trans HGd.out)
  go_wp2_with (refine wpList_load_row rfl 27 (.tmp 4) rfl (w.heap.size + 1) rfl 27 f1.cells (0, 0) _ HGl.out Tryd.underlying27 rfl sizeDel ?_)
  clear HGl
  refine (refDel_all f1 w4 HWd.out.t HWd.out.f HWd.out.b).mono ?_
  rintro e w5 ⟨Ay, ny, cy, rfl, hR, -, hB⟩
  have HRy := Lib.hid hR
  clear hR
  have T0 := Lib.hid (HB.out.trans (hB.mono HB.out.size))
  have T1 := Lib.hid (HRp.out.below hB)
  have T2 := Lib.hid (HRq.out.below hB)
  have T3 := Lib.hid (HRx.out.below hB)
  clear hB
  clear HB HRp HRq HRx
  have HB := T0
  have HRp := T1
  have HRq := T2
  have HRx := T3
  clear T0 T1 T2 T3
  have HCy := Lib.hid (codeB_4 (okDel f1))
  generalize codeB (okDel f1) = cby at *
  generalize outB (okDel f1) (encDel f1) = zsy at *
  go_wp2_with (fail)
  refine (readAdd_all a2 len2 cap2 xs E w5 (HRb.out.below HB.out) (HS0.out.below HB.out).four hcap).mono ?_
  rintro e w6 ⟨rfl, hB⟩
  have T0 := Lib.hid (HB.out.trans (hB.mono HB.out.size))
  have T1 := Lib.hid (HRp.out.below hB)
  have T2 := Lib.hid (HRq.out.below hB)
  have T3 := Lib.hid (HRx.out.below hB)
  have T4 := Lib.hid (HRy.out.below hB)
  clear hB
  clear HB HRp HRq HRx HRy
  have HB := T0
  have HRp := T1
  have HRq := T2
  have HRx := T3
  have HRy := T4
  clear T0 T1 T2 T3 T4
  have HDr := Lib.hid (rdAdd_4 xs len2)
  generalize hr : rdAdd xs len2 = rcr at *
  have HRCr := Lib.hid hr
  clear hr
  generalize ho : outAdd xs len2 = or at *
  have HOOr := Lib.hid ho
  clear ho
  generalize hve : errV E rcr = ver at *
  have HVEr := Lib.hid hve
  clear hve
  have T0 := Lib.hid (HB.out.alloc HB.out.size (.cells or.cells 25))
  have hB := (Below.refl w6.heap.size w6).alloc (Nat.le_refl _) (.cells or.cells 25)
  have T1 := Lib.hid (HRp.out.below hB)
  have T2 := Lib.hid (HRq.out.below hB)
  have T3 := Lib.hid (HRx.out.below hB)
  have T4 := Lib.hid (HRy.out.below hB)
  clear hB
  have HGr := Lib.hid (heap_alloc_last w6 (.cells or.cells 25))
  clear HB HRp HRq HRx HRy
  have HB := T0
  have HRp := T1
  have HRq := T2
  have HRx := T3
  have HRy := T4
  clear T0 T1 T2 T3 T4
  go_wp2_with (refine wpList_store_row rfl 25 (.tmp 16) (.tmp 54) rfl w6.heap.size or.cells rfl rfl 25 Go.Proofs.YtjgingfcfmpfaaaDoor.a0.cells (heap_alloc_last _ _) sizeAdd rfl (Adf.oneCell _) ?_; rw [World.setRow_alloc_new]; generalize World.alloc w6 _ = w7 at *; generalize w6.heap.size = gr at *)
  refine (readDel_all a2 len2 cap2 xs E w7 (HRb.out.below HB.out) (HS0.out.below HB.out).four hcap).mono ?_
  rintro e w8 ⟨rfl, hB⟩
  have T0 := Lib.hid (HB.out.trans (hB.mono HB.out.size))
  have T1 := Lib.hid (HRp.out.below hB)
  have T2 := Lib.hid (HRq.out.below hB)
  have T3 := Lib.hid (HRx.out.below hB)
  have T4 := Lib.hid (HRy.out.below hB)
  have T5 := Lib.hid ((hB.block _ (lt_blk HGr.out)).trans HGr.out)
  clear hB
  clear HB HRp HRq HRx HRy HGr
  have HB := T0
  have HRp := T1
  have HRq := T2
  have HRx := T3
  have HRy := T4
  have HGr := T5
  clear T0 T1 T2 T3 T4 T5
  have HDs := Lib.hid (rdDel_4 xs len2)
  generalize hr : rdDel xs len2 = rcs at *
  have HRCs := Lib.hid hr
  clear hr
  generalize ho : outDel xs len2 = os at *
  have HOOs := Lib.hid ho
  clear ho
  generalize hve : errV E rcs = ves at *
  have HVEs := Lib.hid hve
  clear hve
  have T0 := Lib.hid (HB.out.alloc HB.out.size (.cells os.cells 27))
  have hB := (Below.refl w8.heap.size w8).alloc (Nat.le_refl _) (.cells os.cells 27)
  have T1 := Lib.hid (HRp.out.below hB)
  have T2 := Lib.hid (HRq.out.below hB)
  have T3 := Lib.hid (HRx.out.below hB)
  have T4 := Lib.hid (HRy.out.below hB)
  have T5 := Lib.hid ((hB.block _ (lt_blk HGr.out)).trans HGr.out)
  clear hB
  have HGs := Lib.hid (heap_alloc_last w8 (.cells os.cells 27))
  clear HB HRp HRq HRx HRy HGr
  have HB := T0
  have HRp := T1
  have HRq := T2
  have HRx := T3
  have HRy := T4
  have HGr := T5
  clear T0 T1 T2 T3 T4 T5
  go_wp2_with (refine wpList_store_row rfl 27 (.tmp 18) (.tmp 59) rfl w8.heap.size os.cells rfl rfl 27 Go.Proofs.YtjgingfcfmpfaaaDoor.d0.cells (heap_alloc_last _ _) sizeDel rfl (Dlf.oneCell _) ?_; rw [World.setRow_alloc_new]; generalize World.alloc w8 _ = w9 at *; generalize w8.heap.size = gs at *)
  refine (refReadAdd_all a2 len2 cap2 xs w9 (HRb.out.below HB.out) hcap).mono ?_
  rintro e w10 ⟨rfl, hB⟩
  rw [HOOr.out, HRCr.out]
  have T0 := Lib.hid (HB.out.trans (hB.mono HB.out.size))
  have T1 := Lib.hid (HRp.out.below hB)
  have T2 := Lib.hid (HRq.out.below hB)
  have T3 := Lib.hid (HRx.out.below hB)
  have T4 := Lib.hid (HRy.out.below hB)
  have T5 := Lib.hid ((hB.block _ (lt_blk HGr.out)).trans HGr.out)
  have T6 := Lib.hid ((hB.block _ (lt_blk HGs.out)).trans HGs.out)
  clear hB
  clear HB HRp HRq HRx HRy HGr HGs
  have HB := T0
  have HRp := T1
  have HRq := T2
  have HRx := T3
  have HRy := T4
  have HGr := T5
  have HGs := T6
  clear T0 T1 T2 T3 T4 T5 T6
  have T0 := Lib.hid (HB.out.alloc HB.out.size (.cells or.cells 25))
  have hB := (Below.refl w10.heap.size w10).alloc (Nat.le_refl _) (.cells or.cells 25)
  have T1 := Lib.hid (HRp.out.below hB)
  have T2 := Lib.hid (HRq.out.below hB)
  have T3 := Lib.hid (HRx.out.below hB)
  have T4 := Lib.hid (HRy.out.below hB)
  have T5 := Lib.hid ((hB.block _ (lt_blk HGr.out)).trans HGr.out)
  have T6 := Lib.hid ((hB.block _ (lt_blk HGs.out)).trans HGs.out)
  clear hB
  have HGt := Lib.hid (heap_alloc_last w10 (.cells or.cells 25))
  clear HB HRp HRq HRx HRy HGr HGs
  have HB := T0
  have HRp := T1
  have HRq := T2
  have HRx := T3
  have HRy := T4
  have HGr := T5
  have HGs := T6
  clear T0 T1 T2 T3 T4 T5 T6
  go_wp2_with (refine wpList_store_row rfl 25 (.tmp 20) (.tmp 64) rfl w10.heap.size or.cells rfl rfl 25 Go.Proofs.YtjgingfcfmpfaaaDoor.a0.cells (heap_alloc_last _ _) sizeAdd rfl (Adf.oneCell _) ?_; rw [World.setRow_alloc_new]; generalize World.alloc w10 _ = w11 at *; generalize w10.heap.size = gt at *)
  refine (refReadDel_all a2 len2 cap2 xs w11 (HRb.out.below HB.out) hcap).mono ?_
  rintro e w12 ⟨rfl, hB⟩
  rw [HOOs.out, HRCs.out]
  have T0 := Lib.hid (HB.out.trans (hB.mono HB.out.size))
  have T1 := Lib.hid (HRp.out.below hB)
  have T2 := Lib.hid (HRq.out.below hB)
  have T3 := Lib.hid (HRx.out.below hB)
  have T4 := Lib.hid (HRy.out.below hB)
  have T5 := Lib.hid ((hB.block _ (lt_blk HGr.out)).trans HGr.out)
  have T6 := Lib.hid ((hB.block _ (lt_blk HGs.out)).trans HGs.out)
  have T7 := Lib.hid ((hB.block _ (lt_blk HGt.out)).trans HGt.out)
  clear hB
  clear HB HRp HRq HRx HRy HGr HGs HGt
  have HB := T0
  have HRp := T1
  have HRq := T2
  have HRx := T3
  have HRy := T4
  have HGr := T5
  have HGs := T6
  have HGt := T7
  clear T0 T1 T2 T3 T4 T5 T6 T7
  have T0 := Lib.hid (HB.out.alloc HB.out.size (.cells os.cells 27))
  have hB := (Below.refl w12.heap.size w12).alloc (Nat.le_refl _) (.cells os.cells 27)
  have T1 := Lib.hid (HRp.out.below hB)
  have T2 := Lib.hid (HRq.out.below hB)
  have T3 := Lib.hid (HRx.out.below hB)
  have T4 := Lib.hid (HRy.out.below hB)
  have T5 := Lib.hid ((hB.block _ (lt_blk HGr.out)).trans HGr.out)
  have T6 := Lib.hid ((hB.block _ (lt_blk HGs.out)).trans HGs.out)
  have T7 := Lib.hid ((hB.block _ (lt_blk HGt.out)).trans HGt.out)
  clear hB
  have HGu := Lib.hid (heap_alloc_last w12 (.cells os.cells 27))
  clear HB HRp HRq HRx HRy HGr HGs HGt
  have HB := T0
  have HRp := T1
  have HRq := T2
  have HRx := T3
  have HRy := T4
  have HGr := T5
  have HGs := T6
  have HGt := T7
  clear T0 T1 T2 T3 T4 T5 T6 T7
  go_wp2_with (refine wpList_store_row rfl 27 (.tmp 22) (.tmp 69) rfl w12.heap.size os.cells rfl rfl 27 Go.Proofs.YtjgingfcfmpfaaaDoor.d0.cells (heap_alloc_last _ _) sizeDel rfl (Dlf.oneCell _) ?_; rw [World.setRow_alloc_new]; generalize World.alloc w12 _ = w13 at *; generalize w12.heap.size = gu at *)
  refine (same_any Ap Ax np cp nx cx zsx zsx w13 HRp.out HRx.out).mono ?_
  rintro e w14 ⟨rfl, m, rfl⟩
  rw [sameB_refl]
  have hB := below_drewN (Below.refl w13.heap.size w13) m
  have T0 := Lib.hid (HB.out.trans (hB.mono HB.out.size))
  have T1 := Lib.hid (HRp.out.below hB)
  have T2 := Lib.hid (HRq.out.below hB)
  have T3 := Lib.hid (HRx.out.below hB)
  have T4 := Lib.hid (HRy.out.below hB)
  have T5 := Lib.hid ((hB.block _ (lt_blk HGr.out)).trans HGr.out)
  have T6 := Lib.hid ((hB.block _ (lt_blk HGs.out)).trans HGs.out)
  have T7 := Lib.hid ((hB.block _ (lt_blk HGt.out)).trans HGt.out)
  have T8 := Lib.hid ((hB.block _ (lt_blk HGu.out)).trans HGu.out)
  clear hB
  clear HB HRp HRq HRx HRy HGr HGs HGt HGu
  have HB := T0
  have HRp := T1
  have HRq := T2
  have HRx := T3
  have HRy := T4
  have HGr := T5
  have HGs := T6
  have HGt := T7
  have HGu := T8
  clear T0 T1 T2 T3 T4 T5 T6 T7 T8
  generalize World.drewN w13 m = w14 at *
  clear HRp HRx
  go_wp2_with (fail)
  rw [← HVEp.out]
  refine (is_err E cbx cbx w14 (HS0.out.below HB.out) HCx.out).mono ?_
  rintro e w15 ⟨rfl, hB⟩
  rw [show ((cbx : Int) == (cbx : Int)) = true by simp]
  have T0 := Lib.hid (HB.out.trans (hB.mono HB.out.size))
  have T1 := Lib.hid (HRq.out.below hB)
  have T2 := Lib.hid (HRy.out.below hB)
  have T3 := Lib.hid ((hB.block _ (lt_blk HGr.out)).trans HGr.out)
  have T4 := Lib.hid ((hB.block _ (lt_blk HGs.out)).trans HGs.out)
  have T5 := Lib.hid ((hB.block _ (lt_blk HGt.out)).trans HGt.out)
  have T6 := Lib.hid ((hB.block _ (lt_blk HGu.out)).trans HGu.out)
  clear hB
  clear HB HRq HRy HGr HGs HGt HGu
  have HB := T0
  have HRq := T1
  have HRy := T2
  have HGr := T3
  have HGs := T4
  have HGt := T5
  have HGu := T6
  clear T0 T1 T2 T3 T4 T5 T6
  go_wp2_with (fail)
  refine (same_any Aq Ay nq cq ny cy zsy zsy w15 HRq.out HRy.out).mono ?_
  rintro e w16 ⟨rfl, m, rfl⟩
  rw [sameB_refl]
  have hB := below_drewN (Below.refl w15.heap.size w15) m
  have T0 := Lib.hid (HB.out.trans (hB.mono HB.out.size))
  have T1 := Lib.hid (HRq.out.below hB)
  have T2 := Lib.hid (HRy.out.below hB)
  have T3 := Lib.hid ((hB.block _ (lt_blk HGr.out)).trans HGr.out)
  have T4 := Lib.hid ((hB.block _ (lt_blk HGs.out)).trans HGs.out)
  have T5 := Lib.hid ((hB.block _ (lt_blk HGt.out)).trans HGt.out)
  have T6 := Lib.hid ((hB.block _ (lt_blk HGu.out)).trans HGu.out)
  clear hB
  clear HB HRq HRy HGr HGs HGt HGu
  have HB := T0
  have HRq := T1
  have HRy := T2
  have HGr := T3
  have HGs := T4
  have HGt := T5
  have HGu := T6
  clear T0 T1 T2 T3 T4 T5 T6
  generalize World.drewN w15 m = w16 at *
  clear HRq HRy
  go_wp2_with (fail)
  rw [← HVEq.out]
  refine (is_err E cby cby w16 (HS0.out.below HB.out) HCy.out).mono ?_
  rintro e w17 ⟨rfl, hB⟩
  rw [show ((cby : Int) == (cby : Int)) = true by simp]
  have T0 := Lib.hid (HB.out.trans (hB.mono HB.out.size))
  have T1 := Lib.hid ((hB.block _ (lt_blk HGr.out)).trans HGr.out)
  have T2 := Lib.hid ((hB.block _ (lt_blk HGs.out)).trans HGs.out)
  have T3 := Lib.hid ((hB.block _ (lt_blk HGt.out)).trans HGt.out)
  have T4 := Lib.hid ((hB.block _ (lt_blk HGu.out)).trans HGu.out)
  clear hB
  clear HB HGr HGs HGt HGu
  have HB := T0
  have HGr := T1
  have HGs := T2
  have HGt := T3
  have HGu := T4
  clear T0 T1 T2 T3 T4
  go_wp2_with (first
    | (refine wpList_load_if (by rfl) 25 (.tmp 16) rfl gr rfl 25 or.cells (0, 0) _ HGr.out Tryd.underlying25 rfl sizeAdd ?_)
    | (refine wpList_load_if (by rfl) 25 (.tmp 20) rfl gt rfl 25 or.cells (0, 0) _ HGt.out Tryd.underlying25 rfl sizeAdd ?_))
  refine (sameAdd_any or or w17).mono ?_
  rintro e w18 ⟨rfl, hB⟩
  rw [sameAd_refl]
  have T0 := Lib.hid (HB.out.trans (hB.mono HB.out.size))
  have T1 := Lib.hid ((hB.block _ (lt_blk HGr.out)).trans HGr.out)
  have T2 := Lib.hid ((hB.block _ (lt_blk HGs.out)).trans HGs.out)
  have T3 := Lib.hid ((hB.block _ (lt_blk HGt.out)).trans HGt.out)
  have T4 := Lib.hid ((hB.block _ (lt_blk HGu.out)).trans HGu.out)
  clear hB
  clear HB HGr HGs HGt HGu
  have HB := T0
  have HGr := T1
  have HGs := T2
  have HGt := T3
  have HGu := T4
  clear T0 T1 T2 T3 T4
  clear HGr HGt
  go_wp2_with (fail)
  rw [← HVEr.out]
  refine (is_err E rcr rcr w18 (HS0.out.below HB.out) HDr.out).mono ?_
  rintro e w19 ⟨rfl, hB⟩
  rw [show ((rcr : Int) == (rcr : Int)) = true by simp]
  have T0 := Lib.hid (HB.out.trans (hB.mono HB.out.size))
  have T1 := Lib.hid ((hB.block _ (lt_blk HGs.out)).trans HGs.out)
  have T2 := Lib.hid ((hB.block _ (lt_blk HGu.out)).trans HGu.out)
  clear hB
  clear HB HGs HGu
  have HB := T0
  have HGs := T1
  have HGu := T2
  clear T0 T1 T2
  go_wp2_with (first
    | (refine wpList_load_if (by rfl) 27 (.tmp 18) rfl gs rfl 27 os.cells (0, 0) _ HGs.out Tryd.underlying27 rfl sizeDel ?_)
    | (refine wpList_load_if (by rfl) 27 (.tmp 22) rfl gu rfl 27 os.cells (0, 0) _ HGu.out Tryd.underlying27 rfl sizeDel ?_))
  refine (sameDel_any os os w19).mono ?_
  rintro e w20 ⟨rfl, hB⟩
  rw [sameDl_refl]
  have T0 := Lib.hid (HB.out.trans (hB.mono HB.out.size))
  have T1 := Lib.hid ((hB.block _ (lt_blk HGs.out)).trans HGs.out)
  have T2 := Lib.hid ((hB.block _ (lt_blk HGu.out)).trans HGu.out)
  clear hB
  clear HB HGs HGu
  have HB := T0
  have HGs := T1
  have HGu := T2
  clear T0 T1 T2
  clear HGs HGu
  go_wp2_with (fail)
  rw [← HVEs.out]
  refine (is_err E rcs rcs w20 (HS0.out.below HB.out) HDs.out).mono ?_
  rintro e w21 ⟨rfl, hB⟩
  rw [show ((rcs : Int) == (rcs : Int)) = true by simp]
  have T0 := Lib.hid (HB.out.trans (hB.mono HB.out.size))
  clear hB
  clear HB
  have HB := T0
  clear T0
  go_wp2
  go_ret
  exact ⟨rfl, HB0.out.trans (HB.out.mono HB0.out.size)⟩

end Go.Proofs.YtjgingfcfmpfaaaDoor.actSays
