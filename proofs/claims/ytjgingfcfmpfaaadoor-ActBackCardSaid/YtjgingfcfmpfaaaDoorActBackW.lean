/-
  The walk of muezzin/muezzinlaw5.ActBack: the Go text returns true.
-/
import Derived.Test.YtjgingfcfmpfaaaDoorActX
import Derived.Test.YtjgingfcfmpfaaaDoorOpenA
import Derived.Test.YtjgingfcfmpfaaaDoorErr
import Derived.Deep.CutRange
import Derived.WalkKit
import Derived.ProofKit
import Derived.Below
namespace Go.Proofs.YtjgingfcfmpfaaaDoor.actBack
open Go.ChangeShapes Go.WideShapes Go.ChangeAt Go.RowKit Go.Joins
set_option linter.unusedVariables false
set_option linter.unusedSimpArgs false

/-! ### THE WALK -/
set_option maxRecDepth 100000 in
set_option maxHeartbeats 8000000 in
theorem walk (f0 : Adf) (f1 : Dlf) (a2 : Option Addr) (len2 cap2 : Nat) (z2 : List Int) (w : World) (E : Nat → Addr) (hS : Sent w E [101, 102, 103, 104, 105, 106, 107, 108, 109, 110, 111, 112, 113, 114]) (w0 : IsAdd f0) (w1 : IsDel f1) (w2 : IsRow .u8 w a2 len2 cap2 z2) :
    Calls Tryd.prog 4 #[f0.val, f1.val, .slice a2 len2 cap2] w fun e w' => e = .returned (.bool true) ∧ Below w.heap.size w w' := by
  have HS := Lib.hid hS
  have HWa := Lib.hid w0
  have HWd := Lib.hid w1
  have HI := Lib.hid w2
  clear w0 w1 w2 hS
  have HB0 := Lib.hid (show Below w.heap.size w ((w.alloc (.cells f0.cells 25)).alloc (.cells f1.cells 27)) from ((Below.refl w.heap.size w).alloc (Nat.le_refl _) _).alloc (by simp) _)
  have HGa := Lib.hid (show ((w.alloc (.cells f0.cells 25)).alloc (.cells f1.cells 27)).heap[w.heap.size]? = some (.cells f0.cells 25 (0, 0)) from (heap_alloc_old _ _ (by simp)).trans (heap_alloc_new w _))
  have HGd := Lib.hid (show ((w.alloc (.cells f0.cells 25)).alloc (.cells f1.cells 27)).heap[w.heap.size + 1]? = some (.cells f1.cells 27 (0, 0)) from by have := heap_alloc_new (w.alloc (.cells f0.cells 25)) (.cells f1.cells 27); rwa [show (w.alloc (.cells f0.cells 25)).heap.size = w.heap.size + 1 by simp] at this)
  have HS0 := Lib.hid (HS.out.below HB0.out)
  have HRb := Lib.hid ((RowB.of_row HI.out).below HB0.out)
  have hcap := HI.out.len_cap.1
  clear HS HI
  obtain ⟨xs, hxs⟩ : ∃ xs, xs = z2.take len2 := ⟨_, rfl⟩
  rw [← hxs] at HRb
  clear hxs
  go_enter Tryd.func4, Tryd.ntmps4
  go_wp2_with (fail)
  generalize World.alloc (World.alloc w _) _ = w0 at *
  refine (first_any w0).mono ?_
  rintro e w1 ⟨rfl, hB⟩
  have HB := Lib.hid hB
  clear hB
  cases hlen : decide ((60 : Int) < (len2 : Int))
  case true =>
    go_wp2
    go_ret
    exact ⟨rfl, HB0.out.trans (HB.out.mono HB0.out.size)⟩
  go_wp2_with (fail)
  refine (readAdd_all a2 len2 cap2 xs E w1 (HRb.out.below HB.out) (HS0.out.below HB.out).four hcap).mono ?_
  rintro e w2 ⟨rfl, hB⟩
  have T0 := Lib.hid (HB.out.trans (hB.mono HB.out.size))
  clear hB
  clear HB
  have HB := T0
  clear T0
  obtain ⟨c, hc⟩ : ∃ c, c = (rdAdd xs len2 == 0) := ⟨_, rfl⟩
  have hbve := hc.symm
  have hvve : ∀ w : World, (binOp .eql 31 (errV E (rdAdd xs len2)) .nilIface).run Tryd.prog w = .ok (.bool c) w := fun w => by rw [errV_nil, hbve]
  have hgve : ∀ x : Operand, eqGuard .eql 31 x (.const .nilIface) (errV E (rdAdd xs len2)) .nilIface = pure () := errV_guard E _
  generalize errV E (rdAdd xs len2) = ve at *
  have HC := Lib.hid hc
  clear hc hbve
  generalize hx : outAdd xs len2 = x at *
  have HX := Lib.hid hx
  clear hx
  have T0 := Lib.hid (HB.out.alloc HB.out.size (.cells x.cells 25))
  have HGx := Lib.hid (heap_alloc_last w2 (.cells x.cells 25))
  clear HB
  have HB := T0
  clear T0
  go_upto_if 41 with ((refine wpList_store_row rfl 25 (.tmp 8) (.tmp 38) rfl w2.heap.size x.cells rfl rfl 25 Go.Proofs.YtjgingfcfmpfaaaDoor.a0.cells (heap_alloc_last _ _) sizeAdd rfl (Adf.oneCell _) ?_; rw [World.setRow_alloc_new]; generalize World.alloc w2 _ = w3 at *; generalize w2.heap.size = gx at *))
  clear hvve hgve
  go_cut [] from 8 to 54 (fun wx => Below w0.heap.size w0 wx)
  case first =>
    cases c
    · go_wp2_with fail
      go_meet
      exact HB.out
    · have hr : rdAdd xs len2 = 0 := by have := HC.out; simpa using this.symm
      obtain ⟨-, hok, henc, hout⟩ := rdAdd_fine hr
      rw [HX.out] at hout
      rw [← hout] at hok henc
      have HEN := Lib.hid henc
      have HOK := Lib.hid hok
      clear hr hok henc hout HC HX
      go_wp2_with (refine wpList_load_row rfl 25 (.tmp 8) rfl gx rfl 25 x.cells (0, 0) _ HGx.out Tryd.underlying25 rfl sizeAdd ?_)
      refine (add_yes x w3 HOK.out).mono ?_
      rintro e w4 ⟨g, cap, rfl, hO, hB⟩
      rw [HEN.out] at hO
      have HRc := Lib.hid (hO.row8 (fun i hi => HRb.out.wf8 i (by have h1 := hO.len; have h2 := HRb.out.len; omega)))
      clear hO
      have T0 := Lib.hid (HB.out.trans (hB.mono HB.out.size))
      clear hB
      clear HB
      have HB := T0
      clear T0
      go_wp2_with (fail)
      refine (same_any _ _ 33 cap len2 cap2 xs xs w4 HRc.out (HRb.out.below HB.out)).mono ?_
      rintro e w5 ⟨rfl, m, rfl⟩
      rw [sameB_refl]
      go_wp2_with fail
      go_meet
      exact below_drewN HB.out m
  case rest =>
  have HB := Lib.hid hcut
  clear hcut
  go_wp2_with (fail)
  refine (readDel_all a2 len2 cap2 xs E wc (HRb.out.below HB.out) (HS0.out.below HB.out).four hcap).mono ?_
  rintro e w2 ⟨rfl, hB⟩
  have T0 := Lib.hid (HB.out.trans (hB.mono HB.out.size))
  clear hB
  clear HB
  have HB := T0
  clear T0
  obtain ⟨c, hc⟩ : ∃ c, c = (rdDel xs len2 == 0) := ⟨_, rfl⟩
  have hbve := hc.symm
  have hvve : ∀ w : World, (binOp .eql 31 (errV E (rdDel xs len2)) .nilIface).run Tryd.prog w = .ok (.bool c) w := fun w => by rw [errV_nil, hbve]
  have hgve : ∀ x : Operand, eqGuard .eql 31 x (.const .nilIface) (errV E (rdDel xs len2)) .nilIface = pure () := errV_guard E _
  generalize errV E (rdDel xs len2) = ve at *
  have HC := Lib.hid hc
  clear hc hbve
  generalize hx : outDel xs len2 = x at *
  have HX := Lib.hid hx
  clear hx
  have T0 := Lib.hid (HB.out.alloc HB.out.size (.cells x.cells 27))
  have HGx := Lib.hid (heap_alloc_last w2 (.cells x.cells 27))
  clear HB
  have HB := T0
  clear T0
  go_upto_if 61 with ((refine wpList_store_row rfl 27 (.tmp 12) (.tmp 58) rfl w2.heap.size x.cells rfl rfl 27 Go.Proofs.YtjgingfcfmpfaaaDoor.d0.cells (heap_alloc_last _ _) sizeDel rfl (Dlf.oneCell _) ?_; rw [World.setRow_alloc_new]; generalize World.alloc w2 _ = w3 at *; generalize w2.heap.size = gx at *))
  clear hvve hgve
  go_cut [] from 12 to 74 (fun wx => Below w0.heap.size w0 wx)
  case first =>
    cases c
    · go_wp2_with fail
      go_meet
      exact HB.out
    · have hr : rdDel xs len2 = 0 := by have := HC.out; simpa using this.symm
      obtain ⟨-, hok, henc, hout⟩ := rdDel_fine hr
      rw [HX.out] at hout
      rw [← hout] at hok henc
      have HEN := Lib.hid henc
      have HOK := Lib.hid hok
      clear hr hok henc hout HC HX
      go_wp2_with (refine wpList_load_row rfl 27 (.tmp 12) rfl gx rfl 27 x.cells (0, 0) _ HGx.out Tryd.underlying27 rfl sizeDel ?_)
      refine (del_yes x w3 HOK.out).mono ?_
      rintro e w4 ⟨g, cap, rfl, hO, hB⟩
      rw [HEN.out] at hO
      have HRc := Lib.hid (hO.row8 (fun i hi => HRb.out.wf8 i (by have h1 := hO.len; have h2 := HRb.out.len; omega)))
      clear hO
      have T0 := Lib.hid (HB.out.trans (hB.mono HB.out.size))
      clear hB
      clear HB
      have HB := T0
      clear T0
      go_wp2_with (fail)
      refine (same_any _ _ 30 cap len2 cap2 xs xs w4 HRc.out (HRb.out.below HB.out)).mono ?_
      rintro e w5 ⟨rfl, m, rfl⟩
      rw [sameB_refl]
      go_wp2_with fail
      go_meet
      exact below_drewN HB.out m
  case rest =>
  have HB := Lib.hid hcut
  clear hcut
  have HGl := Lib.hid ((HB.out.block _ (lt_blk HGa.out)).trans HGa.out)
  go_wp2_with (refine wpList_load_row rfl 25 (.tmp 3) rfl w.heap.size rfl 25 f0.cells (0, 0) _ HGl.out Tryd.underlying25 rfl sizeAdd ?_)
  clear HGl
  refine (add_all f0 E wc HWa.out.t HWa.out.f HWa.out.b (HS0.out.below HB.out).four).mono ?_
  rintro e w2 ⟨A, n, c, rfl, hR, hnc, hB⟩
  have HR := Lib.hid hR
  have HNC := Lib.hid hnc
  clear hR hnc
  have T0 := Lib.hid (HB.out.trans (hB.mono HB.out.size))
  clear hB
  clear HB
  have HB := T0
  clear T0
  obtain ⟨c3, hc⟩ : ∃ c3, c3 = (codeB (okAdd f0) == 0) := ⟨_, rfl⟩
  have hbve := hc.symm
  have hvve : ∀ w : World, (binOp .eql 31 (errV E (codeB (okAdd f0))) .nilIface).run Tryd.prog w = .ok (.bool c3) w := fun w => by rw [errV_nil, hbve]
  have hgve : ∀ x : Operand, eqGuard .eql 31 x (.const .nilIface) (errV E (codeB (okAdd f0))) .nilIface = pure () := errV_guard E _
  generalize errV E (codeB (okAdd f0)) = ve at *
  have HC := Lib.hid hc
  clear hc hbve
  go_upto_if 81 with (fail)
  clear hvve hgve
  go_cut [] from 16 to 109 (fun wx => Below w0.heap.size w0 wx)
  case first =>
    cases c3
    · go_wp2_with fail
      go_meet
      exact HB.out
    · have hok : okAdd f0 = true := by
        have := HC.out
        cases h : okAdd f0 with
        | true => rfl
        | false => rw [h] at this; cases this
      rw [show outB (okAdd f0) (encAdd f0) = encAdd f0 by rw [hok]; rfl] at HR
      have hn : n = 33 := by have := HR.out.len; rw [encAdd_len] at this; omega
      subst hn
      have HE1 := Lib.hid (rdAdd_enc f0 hok)
      have HE2 := Lib.hid (rdDel_encAdd f0)
      clear hok HC
      generalize encAdd f0 = ys at *
      go_wp2_with (fail)
      refine (readAdd_all A 33 c ys E w2 HR.out (HS0.out.below HB.out).four HNC.out).mono ?_
      rintro e w3 ⟨rfl, hB⟩
      rw [HE1.out.1, HE1.out.2, errV_zero]
      have T0 := Lib.hid (HB.out.trans (hB.mono HB.out.size))
      have T1 := Lib.hid (HR.out.below hB)
      clear hB
      clear HB HR
      have HB := T0
      have HR := T1
      clear T0 T1
      have T0 := Lib.hid (HB.out.alloc HB.out.size (.cells f0.cells 25))
      have T1 := Lib.hid (HR.out.below ((Below.refl _ _).alloc (Nat.le_refl _) (.cells f0.cells 25)))
      have HGx := Lib.hid (heap_alloc_last w3 (.cells f0.cells 25))
      clear HB HR
      have HB := T0
      have HR := T1
      clear T0 T1
      go_wp2_with (refine wpList_store_row rfl 25 (.tmp 18) (.tmp 85) rfl w3.heap.size f0.cells rfl rfl 25 Go.Proofs.YtjgingfcfmpfaaaDoor.a0.cells (heap_alloc_last _ _) sizeAdd rfl (Adf.oneCell _) ?_; rw [World.setRow_alloc_new]; generalize World.alloc w3 _ = w4 at *; generalize w3.heap.size = gx at *)
      refine (readDel_all A 33 c ys E w4 HR.out (HS0.out.below HB.out).four HNC.out).mono ?_
      rintro e w5 ⟨rfl, hB⟩
      rw [HE2.out.1, HE2.out.2, show errV E 105 = errP (E 105) from rfl]
      have T0 := Lib.hid (HB.out.trans (hB.mono HB.out.size))
      have T1 := Lib.hid (HR.out.below hB)
      have T2 := Lib.hid ((hB.block _ (lt_blk HGx.out)).trans HGx.out)
      clear hB
      clear HB HR HGx
      have HB := T0
      have HR := T1
      have HGx := T2
      clear T0 T1 T2
      have T0 := Lib.hid (HB.out.alloc HB.out.size (.cells Go.Proofs.YtjgingfcfmpfaaaDoor.d0.cells 27))
      have T1 := Lib.hid (HR.out.below ((Below.refl _ _).alloc (Nat.le_refl _) (.cells Go.Proofs.YtjgingfcfmpfaaaDoor.d0.cells 27)))
      have T2 := Lib.hid (((Below.refl _ _).alloc (Nat.le_refl _) (.cells Go.Proofs.YtjgingfcfmpfaaaDoor.d0.cells 27)).block _ (lt_blk HGx.out) |>.trans HGx.out)
      have HGy := Lib.hid (heap_alloc_last w5 (.cells Go.Proofs.YtjgingfcfmpfaaaDoor.d0.cells 27))
      clear HB HR HGx
      have HB := T0
      have HR := T1
      have HGx := T2
      clear T0 T1 T2
      have HGl := Lib.hid ((HB.out.block _ (lt_blk HGa.out)).trans HGa.out)
      go_wp2_with (first
        | (refine wpList_store_row rfl 27 (.tmp 20) (.tmp 90) rfl w5.heap.size Go.Proofs.YtjgingfcfmpfaaaDoor.d0.cells rfl rfl 27 Go.Proofs.YtjgingfcfmpfaaaDoor.d0.cells (heap_alloc_last _ _) sizeDel rfl (Dlf.oneCell _) ?_; rw [World.setRow_alloc_new]; generalize World.alloc w5 _ = w6 at *; generalize w5.heap.size = gy at *)
        | (refine wpList_load_if (by rfl) 25 (.tmp 18) rfl gx rfl 25 f0.cells (0, 0) _ HGx.out Tryd.underlying25 rfl sizeAdd ?_)
        | (refine wpList_load_if (by rfl) 25 (.tmp 3) rfl w.heap.size rfl 25 f0.cells (0, 0) _ HGl.out Tryd.underlying25 rfl sizeAdd ?_))
      refine (sameAdd_any f0 f0 w6).mono ?_
      rintro e w7 ⟨rfl, hB⟩
      rw [sameAd_refl]
      clear HGl HGx HGy HR
      have T0 := Lib.hid (HB.out.trans (hB.mono HB.out.size))
      clear hB
      clear HB
      have HB := T0
      clear T0
      go_wp2_with (fail)
      refine (is_err E 105 105 w7 (HS0.out.below HB.out) (.inr (by decide))).mono ?_
      rintro e w8 ⟨rfl, hB⟩
      rw [show (((105 : Nat) : Int) == 105) = true by decide]
      have T0 := Lib.hid (HB.out.trans (hB.mono HB.out.size))
      clear hB
      clear HB
      have HB := T0
      clear T0
      go_wp2_with fail
      go_meet
      exact HB.out
  case rest =>
  have HB := Lib.hid hcut
  clear hcut
  have HGl := Lib.hid ((HB.out.block _ (lt_blk HGd.out)).trans HGd.out)
  go_wp2_with (refine wpList_load_row rfl 27 (.tmp 4) rfl (w.heap.size + 1) rfl 27 f1.cells (0, 0) _ HGl.out Tryd.underlying27 rfl sizeDel ?_)
  clear HGl
  refine (del_all f1 E wc HWd.out.t HWd.out.f HWd.out.b (HS0.out.below HB.out).four).mono ?_
  rintro e w2 ⟨A, n, c, rfl, hR, hnc, hB⟩
  have HR := Lib.hid hR
  have HNC := Lib.hid hnc
  clear hR hnc
  have T0 := Lib.hid (HB.out.trans (hB.mono HB.out.size))
  clear hB
  clear HB
  have HB := T0
  clear T0
  obtain ⟨c3, hc⟩ : ∃ c3, c3 = (codeB (okDel f1) == 0) := ⟨_, rfl⟩
  have hbve := hc.symm
  have hvve : ∀ w : World, (binOp .eql 31 (errV E (codeB (okDel f1))) .nilIface).run Tryd.prog w = .ok (.bool c3) w := fun w => by rw [errV_nil, hbve]
  have hgve : ∀ x : Operand, eqGuard .eql 31 x (.const .nilIface) (errV E (codeB (okDel f1))) .nilIface = pure () := errV_guard E _
  generalize errV E (codeB (okDel f1)) = ve at *
  have HC := Lib.hid hc
  clear hc hbve
  go_upto_if 116 with (fail)
  clear hvve hgve
  go_cut [] from 22 to 144 (fun wx => Below w0.heap.size w0 wx)
  case first =>
    cases c3
    · go_wp2_with fail
      go_meet
      exact HB.out
    · have hok : okDel f1 = true := by
        have := HC.out
        cases h : okDel f1 with
        | true => rfl
        | false => rw [h] at this; cases this
      rw [show outB (okDel f1) (encDel f1) = encDel f1 by rw [hok]; rfl] at HR
      have hn : n = 30 := by have := HR.out.len; rw [encDel_len] at this; omega
      subst hn
      have HE1 := Lib.hid (rdDel_enc f1 hok)
      have HE2 := Lib.hid (rdAdd_encDel f1)
      clear hok HC
      generalize encDel f1 = ys at *
      go_wp2_with (fail)
      refine (readDel_all A 30 c ys E w2 HR.out (HS0.out.below HB.out).four HNC.out).mono ?_
      rintro e w3 ⟨rfl, hB⟩
      rw [HE1.out.1, HE1.out.2, errV_zero]
      have T0 := Lib.hid (HB.out.trans (hB.mono HB.out.size))
      have T1 := Lib.hid (HR.out.below hB)
      clear hB
      clear HB HR
      have HB := T0
      have HR := T1
      clear T0 T1
      have T0 := Lib.hid (HB.out.alloc HB.out.size (.cells f1.cells 27))
      have T1 := Lib.hid (HR.out.below ((Below.refl _ _).alloc (Nat.le_refl _) (.cells f1.cells 27)))
      have HGx := Lib.hid (heap_alloc_last w3 (.cells f1.cells 27))
      clear HB HR
      have HB := T0
      have HR := T1
      clear T0 T1
      go_wp2_with (refine wpList_store_row rfl 27 (.tmp 24) (.tmp 120) rfl w3.heap.size f1.cells rfl rfl 27 Go.Proofs.YtjgingfcfmpfaaaDoor.d0.cells (heap_alloc_last _ _) sizeDel rfl (Dlf.oneCell _) ?_; rw [World.setRow_alloc_new]; generalize World.alloc w3 _ = w4 at *; generalize w3.heap.size = gx at *)
      refine (readAdd_all A 30 c ys E w4 HR.out (HS0.out.below HB.out).four HNC.out).mono ?_
      rintro e w5 ⟨rfl, hB⟩
      rw [HE2.out.1, HE2.out.2, show errV E 105 = errP (E 105) from rfl]
      have T0 := Lib.hid (HB.out.trans (hB.mono HB.out.size))
      have T1 := Lib.hid (HR.out.below hB)
      have T2 := Lib.hid ((hB.block _ (lt_blk HGx.out)).trans HGx.out)
      clear hB
      clear HB HR HGx
      have HB := T0
      have HR := T1
      have HGx := T2
      clear T0 T1 T2
      have T0 := Lib.hid (HB.out.alloc HB.out.size (.cells Go.Proofs.YtjgingfcfmpfaaaDoor.a0.cells 25))
      have T1 := Lib.hid (HR.out.below ((Below.refl _ _).alloc (Nat.le_refl _) (.cells Go.Proofs.YtjgingfcfmpfaaaDoor.a0.cells 25)))
      have T2 := Lib.hid (((Below.refl _ _).alloc (Nat.le_refl _) (.cells Go.Proofs.YtjgingfcfmpfaaaDoor.a0.cells 25)).block _ (lt_blk HGx.out) |>.trans HGx.out)
      have HGy := Lib.hid (heap_alloc_last w5 (.cells Go.Proofs.YtjgingfcfmpfaaaDoor.a0.cells 25))
      clear HB HR HGx
      have HB := T0
      have HR := T1
      have HGx := T2
      clear T0 T1 T2
      have HGl := Lib.hid ((HB.out.block _ (lt_blk HGd.out)).trans HGd.out)
      go_wp2_with (first
        | (refine wpList_store_row rfl 25 (.tmp 26) (.tmp 125) rfl w5.heap.size Go.Proofs.YtjgingfcfmpfaaaDoor.a0.cells rfl rfl 25 Go.Proofs.YtjgingfcfmpfaaaDoor.a0.cells (heap_alloc_last _ _) sizeAdd rfl (Adf.oneCell _) ?_; rw [World.setRow_alloc_new]; generalize World.alloc w5 _ = w6 at *; generalize w5.heap.size = gy at *)
        | (refine wpList_load_if (by rfl) 27 (.tmp 24) rfl gx rfl 27 f1.cells (0, 0) _ HGx.out Tryd.underlying27 rfl sizeDel ?_)
        | (refine wpList_load_if (by rfl) 27 (.tmp 4) rfl (w.heap.size + 1) rfl 27 f1.cells (0, 0) _ HGl.out Tryd.underlying27 rfl sizeDel ?_))
      refine (sameDel_any f1 f1 w6).mono ?_
      rintro e w7 ⟨rfl, hB⟩
      rw [sameDl_refl]
      clear HGl HGx HGy HR
      have T0 := Lib.hid (HB.out.trans (hB.mono HB.out.size))
      clear hB
      clear HB
      have HB := T0
      clear T0
      go_wp2_with (fail)
      refine (is_err E 105 105 w7 (HS0.out.below HB.out) (.inr (by decide))).mono ?_
      rintro e w8 ⟨rfl, hB⟩
      rw [show (((105 : Nat) : Int) == 105) = true by decide]
      have T0 := Lib.hid (HB.out.trans (hB.mono HB.out.size))
      clear hB
      clear HB
      have HB := T0
      clear T0
      go_wp2_with fail
      go_meet
      exact HB.out
  case rest =>
  have HB := Lib.hid hcut
  clear hcut
  go_wp2
  go_ret
  exact ⟨rfl, HB0.out.trans (HB.out.mono HB0.out.size)⟩

end Go.Proofs.YtjgingfcfmpfaaaDoor.actBack
