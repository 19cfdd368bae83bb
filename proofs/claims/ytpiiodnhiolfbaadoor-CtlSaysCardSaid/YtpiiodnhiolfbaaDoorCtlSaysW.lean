/-
  The walk of muezzin/muezzinlaw4.CtlSays: the Go text returns true.
-/
import Derived.Test.YtpiiodnhiolfbaaDoorCtlU
import Derived.Test.YtpiiodnhiolfbaaDoorOpenC
import Derived.Test.YtpiiodnhiolfbaaDoorErr
import Derived.WalkKit
import Derived.ProofKit
import Derived.Below
namespace Go.Proofs.YtpiiodnhiolfbaaDoor.ctlSays
open Go.ChangeShapes Go.WideShapes Go.ChangeAt Go.RowKit Go.Joins
set_option linter.unusedVariables false
set_option linter.unusedSimpArgs false

/-! ### THE WALK -/
set_option maxRecDepth 100000 in
set_option maxHeartbeats 8000000 in
theorem walk (f0 : Brf) (f1 : Akf) (f2 : Plf) (w : World) (E : Nat → Addr) (hS : Sent w E [101, 102, 103, 104, 105, 106, 107, 108, 109, 110, 111, 112, 113, 114]) (w0 : IsBar f0) (w1 : IsAck f1) (w2 : IsPoll f2) :
    Calls Tryd.prog 3 #[f0.val, f1.val, f2.val] w fun e w' => e = .returned (.bool true) ∧ Below w.heap.size w w' := by
  have HS := Lib.hid hS
  have H0 := Lib.hid w0
  have H1 := Lib.hid w1
  have H2 := Lib.hid w2
  clear w0 w1 w2 hS
  have HB0 := Lib.hid (show Below w.heap.size w (((w.alloc (.cells f0.cells 25)).alloc (.cells f1.cells 28)).alloc (.cells f2.cells 30)) from (((Below.refl w.heap.size w).alloc (Nat.le_refl _) _).alloc (by simp) _).alloc (by simp; omega) _)
  have HG0 := Lib.hid (show (((w.alloc (.cells f0.cells 25)).alloc (.cells f1.cells 28)).alloc (.cells f2.cells 30)).heap[w.heap.size]? = some (.cells f0.cells 25 (0, 0)) from (heap_alloc_old _ _ (by simp; omega)).trans ((heap_alloc_old _ _ (by simp)).trans (heap_alloc_new w _)))
  have HG1 := Lib.hid (show (((w.alloc (.cells f0.cells 25)).alloc (.cells f1.cells 28)).alloc (.cells f2.cells 30)).heap[w.heap.size + 1]? = some (.cells f1.cells 28 (0, 0)) from (heap_alloc_old _ _ (by simp)).trans (by have := heap_alloc_new (w.alloc (.cells f0.cells 25)) (.cells f1.cells 28); rwa [show (w.alloc (.cells f0.cells 25)).heap.size = w.heap.size + 1 by simp] at this))
  have HG2 := Lib.hid (show (((w.alloc (.cells f0.cells 25)).alloc (.cells f1.cells 28)).alloc (.cells f2.cells 30)).heap[w.heap.size + 1 + 1]? = some (.cells f2.cells 30 (0, 0)) from by have := heap_alloc_new ((w.alloc (.cells f0.cells 25)).alloc (.cells f1.cells 28)) (.cells f2.cells 30); rwa [show ((w.alloc (.cells f0.cells 25)).alloc (.cells f1.cells 28)).heap.size = w.heap.size + 1 + 1 by simp] at this)
  have HZ := Lib.hid (show w.heap.size + 1 + 1 < (((w.alloc (.cells f0.cells 25)).alloc (.cells f1.cells 28)).alloc (.cells f2.cells 30)).heap.size by simp)
  go_enter Tryd.func3, Tryd.ntmps3
  go_wp2_with (fail)
  generalize World.alloc (World.alloc (World.alloc w _) _) _ = w0 at *
  refine (first_any _).mono ?_
  rintro e w1 ⟨rfl, hB⟩
  have HB1 := Lib.hid hB
  clear hB
  have HGa := Lib.hid ((HB1.out.block _ (by have := HZ.out; omega)).trans HG0.out)
  go_wp2_with (refine wpList_load_row rfl 25 (.tmp 3) rfl w.heap.size rfl 25 f0.cells (0, 0) _ HGa.out Tryd.underlying25 rfl sizeBar ?_)
  refine (bar_all f0 E w1 H0.out.t H0.out.f (HS.out.below (HB0.out.trans (HB1.out.mono HB0.out.size))).four).mono ?_
  rintro e w2 ⟨A2, n2, c2, rfl, hR, hB⟩
  have HR2 := Lib.hid hR
  have HB2 := Lib.hid (HB1.out.trans (hB.mono HB1.out.size))
  clear hR hB HGa
  generalize hve : errV E (codeB (okTS f0.tid f0.seq)) = ve0 at *
  have HVE0 := Lib.hid hve
  clear hve
  have HGa := Lib.hid ((HB2.out.block _ (by have := HZ.out; omega)).trans HG1.out)
  go_wp2_with (refine wpList_load_row rfl 28 (.tmp 4) rfl (w.heap.size + 1) rfl 28 f1.cells (0, 0) _ HGa.out Tryd.underlying28 rfl sizeAck ?_)
  refine (ack_all f1 E w2 H1.out.t H1.out.f (HS.out.below (HB0.out.trans (HB2.out.mono HB0.out.size))).four).mono ?_
  rintro e w3 ⟨A3, n3, c3, rfl, hR, hB⟩
  have HR3 := Lib.hid hR
  have HB3 := Lib.hid (HB2.out.trans (hB.mono HB2.out.size))
  have HR2n := Lib.hid (HR2.out.below hB)
  clear HR2
  have HR2 := HR2n
  clear HR2n
  clear hR hB HGa
  generalize hve : errV E (codeB (okTS f1.tid f1.seq)) = ve1 at *
  have HVE1 := Lib.hid hve
  clear hve
  have HGa := Lib.hid ((HB3.out.block _ (by have := HZ.out; omega)).trans HG2.out)
  go_wp2_with (refine wpList_load_row rfl 30 (.tmp 5) rfl (w.heap.size + 1 + 1) rfl 30 f2.cells (0, 0) _ HGa.out Tryd.underlying30 rfl sizePoll ?_)
  refine (poll_all f2 E w3 H2.out.b H2.out.f (HS.out.below (HB0.out.trans (HB3.out.mono HB0.out.size))).four).mono ?_
  rintro e w4 ⟨A4, n4, c4, rfl, hR, hB⟩
  have HR4 := Lib.hid hR
  have HB4 := Lib.hid (HB3.out.trans (hB.mono HB3.out.size))
  have HR2n := Lib.hid (HR2.out.below hB)
  clear HR2
  have HR2 := HR2n
  clear HR2n
  have HR3n := Lib.hid (HR3.out.below hB)
  clear HR3
  have HR3 := HR3n
  clear HR3n
  clear hR hB HGa
  generalize hve : errV E (codeB (okAID f2.aid)) = ve2 at *
  have HVE2 := Lib.hid hve
  clear hve
  have HGa := Lib.hid ((HB4.out.block _ (by have := HZ.out; omega)).trans HG0.out)
  go_wp2_with (refine wpList_load_row rfl 25 (.tmp 3) rfl w.heap.size rfl 25 f0.cells (0, 0) _ HGa.out Tryd.underlying25 rfl sizeBar ?_)
  refine (refBar_all f0 w4 H0.out.t H0.out.f).mono ?_
  rintro e w5 ⟨A5, n5, c5, rfl, hR, hB⟩
  have HR5 := Lib.hid hR
  have HB5 := Lib.hid (HB4.out.trans (hB.mono HB4.out.size))
  have HR2n := Lib.hid (HR2.out.below hB)
  clear HR2
  have HR2 := HR2n
  clear HR2n
  have HR3n := Lib.hid (HR3.out.below hB)
  clear HR3
  have HR3 := HR3n
  clear HR3n
  have HR4n := Lib.hid (HR4.out.below hB)
  clear HR4
  have HR4 := HR4n
  clear HR4n
  clear hR hB HGa
  have HC0 := Lib.hid (codeB_4 (okTS f0.tid f0.seq))
  generalize codeB (okTS f0.tid f0.seq) = cb0 at *
  generalize outB (okTS f0.tid f0.seq) (encW 132 f0.t f0.f f0.tid f0.seq) = zs0 at *
  have HGa := Lib.hid ((HB5.out.block _ (by have := HZ.out; omega)).trans HG1.out)
  go_wp2_with (refine wpList_load_row rfl 28 (.tmp 4) rfl (w.heap.size + 1) rfl 28 f1.cells (0, 0) _ HGa.out Tryd.underlying28 rfl sizeAck ?_)
  refine (refAck_all f1 w5 H1.out.t H1.out.f).mono ?_
  rintro e w6 ⟨A6, n6, c6, rfl, hR, hB⟩
  have HR6 := Lib.hid hR
  have HB6 := Lib.hid (HB5.out.trans (hB.mono HB5.out.size))
  have HR2n := Lib.hid (HR2.out.below hB)
  clear HR2
  have HR2 := HR2n
  clear HR2n
  have HR3n := Lib.hid (HR3.out.below hB)
  clear HR3
  have HR3 := HR3n
  clear HR3n
  have HR4n := Lib.hid (HR4.out.below hB)
  clear HR4
  have HR4 := HR4n
  clear HR4n
  have HR5n := Lib.hid (HR5.out.below hB)
  clear HR5
  have HR5 := HR5n
  clear HR5n
  clear hR hB HGa
  have HC1 := Lib.hid (codeB_4 (okTS f1.tid f1.seq))
  generalize codeB (okTS f1.tid f1.seq) = cb1 at *
  generalize outB (okTS f1.tid f1.seq) (encA f1) = zs1 at *
  have HGa := Lib.hid ((HB6.out.block _ (by have := HZ.out; omega)).trans HG2.out)
  go_wp2_with (refine wpList_load_row rfl 30 (.tmp 5) rfl (w.heap.size + 1 + 1) rfl 30 f2.cells (0, 0) _ HGa.out Tryd.underlying30 rfl sizePoll ?_)
  refine (refPoll_all f2 w6 H2.out.b H2.out.f).mono ?_
  rintro e w7 ⟨A7, n7, c7, rfl, hR, hB⟩
  have HR7 := Lib.hid hR
  have HB7 := Lib.hid (HB6.out.trans (hB.mono HB6.out.size))
  have HR2n := Lib.hid (HR2.out.below hB)
  clear HR2
  have HR2 := HR2n
  clear HR2n
  have HR3n := Lib.hid (HR3.out.below hB)
  clear HR3
  have HR3 := HR3n
  clear HR3n
  have HR4n := Lib.hid (HR4.out.below hB)
  clear HR4
  have HR4 := HR4n
  clear HR4n
  have HR5n := Lib.hid (HR5.out.below hB)
  clear HR5
  have HR5 := HR5n
  clear HR5n
  have HR6n := Lib.hid (HR6.out.below hB)
  clear HR6
  have HR6 := HR6n
  clear HR6n
  clear hR hB HGa
  have HC2 := Lib.hid (codeB_4 (okAID f2.aid))
  generalize codeB (okAID f2.aid) = cb2 at *
  generalize outB (okAID f2.aid) (encP f2) = zs2 at *
  go_wp2_with (fail)
  refine (same_any A2 A5 n2 c2 n5 c5 zs0 zs0 w7 HR2.out HR5.out).mono ?_
  rintro e w8 ⟨rfl, m, rfl⟩
  rw [sameB_refl]
  have HB8 := Lib.hid (below_drewN HB7.out m)
  have HR3n := Lib.hid (HR3.out.drewN m)
  have HR6n := Lib.hid (HR6.out.drewN m)
  clear HR3 HR6
  have HR3 := HR3n
  have HR6 := HR6n
  clear HR3n HR6n
  have HR4n := Lib.hid (HR4.out.drewN m)
  have HR7n := Lib.hid (HR7.out.drewN m)
  clear HR4 HR7
  have HR4 := HR4n
  have HR7 := HR7n
  clear HR4n HR7n
  generalize World.drewN w7 m = w8 at *
  go_wp2_with (fail)
  rw [← HVE0.out]
  refine (is_err E cb0 cb0 w8 (HS.out.below (HB0.out.trans (HB8.out.mono HB0.out.size))) HC0.out).mono ?_
  rintro e w9 ⟨rfl, hB⟩
  rw [show ((cb0 : Int) == (cb0 : Int)) = true by simp]
  have HB9 := Lib.hid (HB8.out.trans (hB.mono HB8.out.size))
  have HR3n := Lib.hid (HR3.out.below hB)
  have HR6n := Lib.hid (HR6.out.below hB)
  clear HR3 HR6
  have HR3 := HR3n
  have HR6 := HR6n
  clear HR3n HR6n
  have HR4n := Lib.hid (HR4.out.below hB)
  have HR7n := Lib.hid (HR7.out.below hB)
  clear HR4 HR7
  have HR4 := HR4n
  have HR7 := HR7n
  clear HR4n HR7n
  clear hB
  go_wp2_with (fail)
  refine (same_any A3 A6 n3 c3 n6 c6 zs1 zs1 w9 HR3.out HR6.out).mono ?_
  rintro e w10 ⟨rfl, m, rfl⟩
  rw [sameB_refl]
  have HB10 := Lib.hid (below_drewN HB9.out m)
  have HR4n := Lib.hid (HR4.out.drewN m)
  have HR7n := Lib.hid (HR7.out.drewN m)
  clear HR4 HR7
  have HR4 := HR4n
  have HR7 := HR7n
  clear HR4n HR7n
  generalize World.drewN w9 m = w10 at *
  go_wp2_with (fail)
  rw [← HVE1.out]
  refine (is_err E cb1 cb1 w10 (HS.out.below (HB0.out.trans (HB10.out.mono HB0.out.size))) HC1.out).mono ?_
  rintro e w11 ⟨rfl, hB⟩
  rw [show ((cb1 : Int) == (cb1 : Int)) = true by simp]
  have HB11 := Lib.hid (HB10.out.trans (hB.mono HB10.out.size))
  have HR4n := Lib.hid (HR4.out.below hB)
  have HR7n := Lib.hid (HR7.out.below hB)
  clear HR4 HR7
  have HR4 := HR4n
  have HR7 := HR7n
  clear HR4n HR7n
  clear hB
  go_wp2_with (fail)
  refine (same_any A4 A7 n4 c4 n7 c7 zs2 zs2 w11 HR4.out HR7.out).mono ?_
  rintro e w12 ⟨rfl, m, rfl⟩
  rw [sameB_refl]
  have HB12 := Lib.hid (below_drewN HB11.out m)
  generalize World.drewN w11 m = w12 at *
  go_wp2_with (fail)
  rw [← HVE2.out]
  refine (is_err E cb2 cb2 w12 (HS.out.below (HB0.out.trans (HB12.out.mono HB0.out.size))) HC2.out).mono ?_
  rintro e w13 ⟨rfl, hB⟩
  rw [show ((cb2 : Int) == (cb2 : Int)) = true by simp]
  have HB13 := Lib.hid (HB12.out.trans (hB.mono HB12.out.size))
  clear hB
  go_wp2
  go_ret
  exact ⟨rfl, HB0.out.trans (HB13.out.mono HB0.out.size)⟩

end Go.Proofs.YtpiiodnhiolfbaaDoor.ctlSays
