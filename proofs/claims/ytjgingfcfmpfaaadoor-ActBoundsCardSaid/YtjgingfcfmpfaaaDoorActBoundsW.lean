/-
  The walk of muezzin/muezzinlaw5.ActBounds: the Go text returns true.
-/
import Derived.Test.YtjgingfcfmpfaaaDoorActX
import Derived.Test.YtjgingfcfmpfaaaDoorNum
import Derived.Test.YtjgingfcfmpfaaaDoorOpenA
import Derived.Test.YtjgingfcfmpfaaaDoorErr
import Derived.Deep.CutRange
import Derived.Deep.CutBlock
import Derived.WalkKit
import Derived.ProofKit
import Derived.Below
namespace Go.Proofs.YtjgingfcfmpfaaaDoor.actBounds
open Go.ChangeShapes Go.WideShapes Go.ChangeAt Go.RowKit Go.Joins
set_option linter.unusedVariables false
set_option linter.unusedSimpArgs false

/-! ### THE WALK -/
set_option maxRecDepth 100000 in
set_option maxHeartbeats 8000000 in
theorem walk (n0 : Int) (n1 : Int) (b2 : Bool) (w : World) (E : Nat → Addr) (hS : Sent w E [101, 102, 103, 104, 105, 106, 107, 108, 109, 110, 111, 112, 113, 114]) (w0 : (Lit.int .i64 n0).wf = true) (w1 : (Lit.int .i64 n1).wf = true) :
    Calls Tryd.prog 6 #[.int .i64 n0, .int .i64 n1, .bool b2] w fun e w' => e = .returned (.bool true) ∧ Below w.heap.size w w' := by
  have HS := Lib.hid hS
  have W0 := Lib.hid w0
  have W1 := Lib.hid w1
  clear hS w0 w1
  go_enter Tryd.func6, Tryd.ntmps6
  go_wp2_with (fail)
  refine (first_any _).mono ?_
  rintro e w1 ⟨rfl, hB⟩
  have HB := Lib.hid hB
  clear hB
  go_wp2_with (fail)
  refine (number_any _ _ _ W1.out (by omega) (by omega)).mono ?_
  rintro e w' ⟨rfl, rfl⟩
  have t0 := nmod_lo n1 2 (by omega)
  have t1 := nmod_hi n1 2 (by omega)
  generalize nmod n1 2 = far at *
  cases b2
  · have T0 := Lib.hid (HB.out.alloc HB.out.size (.cells (Adf.mk ⟨0, 0, 0, 0, 0, 0⟩ ⟨0, 0, 0, 0, 0, 0⟩ ⟨0, 0, 0, 0, 0, 0⟩ false 255 7 1023 65535 0 0).cells 25))
    have HGa := Lib.hid (heap_alloc_last w1 (.cells (Adf.mk ⟨0, 0, 0, 0, 0, 0⟩ ⟨0, 0, 0, 0, 0, 0⟩ ⟨0, 0, 0, 0, 0, 0⟩ false 255 7 1023 65535 0 0).cells 25))
    have HLa := Lib.hid HB.out.size
    clear HB
    have HB := T0
    clear T0
    go_wp2_with (first
      | (refine wpList_store_row rfl 25 (.tmp 8) (.tmp 26) rfl w1.heap.size (Adf.mk ⟨0, 0, 0, 0, 0, 0⟩ ⟨0, 0, 0, 0, 0, 0⟩ ⟨0, 0, 0, 0, 0, 0⟩ false 255 7 1023 65535 0 0).cells rfl rfl 25 Go.Proofs.YtjgingfcfmpfaaaDoor.a0.cells (heap_alloc_last _ _) sizeAdd rfl (Adf.oneCell _) ?_; rw [World.setRow_alloc_new]; generalize World.alloc w1 _ = w2 at *; generalize w1.heap.size = ga at *)
      | (refine wpList_store_into rfl 3 (.tmp 29) (.const (.int .i64 4095)) rfl ga 23 (.int .i64 4095) rfl rfl rfl 25 (Adf.mk ⟨0, 0, 0, 0, 0, 0⟩ ⟨0, 0, 0, 0, 0, 0⟩ ⟨0, 0, 0, 0, 0, 0⟩ false 255 7 1023 65535 0 0).cells (Adf.mk ⟨0, 0, 0, 0, 0, 0⟩ ⟨0, 0, 0, 0, 0, 0⟩ ⟨0, 0, 0, 0, 0, 0⟩ false 255 7 1023 65535 4095 0).cells HGa.out sizeI64 (show 23 < 25 by decide) rfl ?_; have T0 := Lib.hid (below_setRow HB.out HLa.out (Adf.mk ⟨0, 0, 0, 0, 0, 0⟩ ⟨0, 0, 0, 0, 0, 0⟩ ⟨0, 0, 0, 0, 0, 0⟩ false 255 7 1023 65535 4095 0).cells); have T1 := Lib.hid (setRow_heap _ ga _ (Adf.mk ⟨0, 0, 0, 0, 0, 0⟩ ⟨0, 0, 0, 0, 0, 0⟩ ⟨0, 0, 0, 0, 0, 0⟩ false 255 7 1023 65535 4095 0).cells _ _ HGa.out); clear HB HGa; have HB := T0; have HGa := T1; clear T0 T1; generalize World.setRow _ _ _ = w3 at *)
      | (refine wpList_load_row rfl 25 (.tmp 8) rfl ga rfl 25 (Adf.mk ⟨0, 0, 0, 0, 0, 0⟩ ⟨0, 0, 0, 0, 0, 0⟩ ⟨0, 0, 0, 0, 0, 0⟩ false 255 7 1023 65535 4095 0).cells (0, 0) _ HGa.out Tryd.underlying25 rfl sizeAdd ?_))
    refine (add_yes (Adf.mk ⟨0, 0, 0, 0, 0, 0⟩ ⟨0, 0, 0, 0, 0, 0⟩ ⟨0, 0, 0, 0, 0, 0⟩ false 255 7 1023 65535 4095 0) w3 (by decide)).mono ?_
    rintro e w4 ⟨g, cap, rfl, -, hB⟩
    have T0 := Lib.hid (HB.out.trans (hB.mono HB.out.size))
    have T1 := Lib.hid ((hB.block _ (lt_blk HGa.out)).trans HGa.out)
    clear hB
    clear HB HGa
    have HB := T0
    have HGa := T1
    clear T0 T1
    have T0 := Lib.hid (HB.out.alloc HB.out.size (.cells (Adf.mk ⟨0, 0, 0, 0, 0, 0⟩ ⟨0, 0, 0, 0, 0, 0⟩ ⟨0, 0, 0, 0, 0, 0⟩ false 255 7 1023 65535 4095 0).cells 25))
    have T1 := Lib.hid (((Below.refl w4.heap.size w4).alloc (Nat.le_refl _) (.cells (Adf.mk ⟨0, 0, 0, 0, 0, 0⟩ ⟨0, 0, 0, 0, 0, 0⟩ ⟨0, 0, 0, 0, 0, 0⟩ false 255 7 1023 65535 4095 0).cells 25)).block _ (lt_blk HGa.out) |>.trans HGa.out)
    have HGb := Lib.hid (heap_alloc_last w4 (.cells (Adf.mk ⟨0, 0, 0, 0, 0, 0⟩ ⟨0, 0, 0, 0, 0, 0⟩ ⟨0, 0, 0, 0, 0, 0⟩ false 255 7 1023 65535 4095 0).cells 25))
    have HLb := Lib.hid HB.out.size
    have HG4 := Lib.hid HGa.out
    clear HB HGa
    have HB := T0
    have HGa := T1
    clear T0 T1
    go_wp2_with (first
      | (refine wpList_load_row rfl 25 (.tmp 8) rfl ga rfl 25 (Adf.mk ⟨0, 0, 0, 0, 0, 0⟩ ⟨0, 0, 0, 0, 0, 0⟩ ⟨0, 0, 0, 0, 0, 0⟩ false 255 7 1023 65535 4095 0).cells (0, 0) _ HG4.out Tryd.underlying25 rfl sizeAdd ?_)
      | (refine wpList_store_row rfl 25 (.tmp 11) (.tmp 35) rfl w4.heap.size (Adf.mk ⟨0, 0, 0, 0, 0, 0⟩ ⟨0, 0, 0, 0, 0, 0⟩ ⟨0, 0, 0, 0, 0, 0⟩ false 255 7 1023 65535 4095 0).cells rfl rfl 25 Go.Proofs.YtjgingfcfmpfaaaDoor.a0.cells (heap_alloc_last _ _) sizeAdd rfl (Adf.oneCell _) ?_; rw [World.setRow_alloc_new]; generalize World.alloc w4 _ = w5 at *; generalize w4.heap.size = gb at *))
    clear HG4
    refine (number_any _ _ _ W0.out (by omega) (by omega)).mono ?_
    rintro e w' ⟨rfl, rfl⟩
    have s0 := nmod_lo n0 6 (by omega)
    have s1 := nmod_hi n0 6 (by omega)
    generalize nmod n0 6 = kk at *
    go_upto_block 0 with fail
    go_cut [] from 38 to 75 (fun wx => ∃ q : Adf, okAdd q = false ∧ Below w.heap.size w wx ∧ wx.heap[gb]? = some (.cells q.cells 25 (0, 0)))
    case first =>
      have HBA := Lib.hid (fun o : Obj => HB.out.alloc HB.out.size o)
      have HGA := Lib.hid (fun o : Obj => (((Below.refl w5.heap.size w5).alloc (Nat.le_refl _) o).block _ (lt_blk HGb.out)).trans HGb.out)
      have d23 := cell_of_row w5 ga 23 _ _ _ HGa.out
      have d24 := cell_of_row w5 ga 24 _ _ _ HGa.out
      dsimp only [Adf.cells] at d23 d24
      rcases (by omega : kk = 0 ∨ kk = 1 ∨ kk = 2 ∨ kk = 3 ∨ kk = 4 ∨ kk = 5) with rfl | rfl | rfl | rfl | rfl | rfl
      · rcases (by omega : far = 0 ∨ far = 1) with rfl | rfl
        · go_wp2_with (refine wpList_store_into rfl 3 (.tmp 48) (.tmp 47) rfl gb 19 (.int .i64 (256)) rfl rfl rfl 25 (Adf.mk ⟨0, 0, 0, 0, 0, 0⟩ ⟨0, 0, 0, 0, 0, 0⟩ ⟨0, 0, 0, 0, 0, 0⟩ false 255 7 1023 65535 4095 0).cells (Adf.mk ⟨0, 0, 0, 0, 0, 0⟩ ⟨0, 0, 0, 0, 0, 0⟩ ⟨0, 0, 0, 0, 0, 0⟩ false (256) 7 1023 65535 4095 0).cells (HGA.out _) sizeI64 (show 19 < 25 by decide) rfl ?_)
          go_meet
          exact ⟨(Adf.mk ⟨0, 0, 0, 0, 0, 0⟩ ⟨0, 0, 0, 0, 0, 0⟩ ⟨0, 0, 0, 0, 0, 0⟩ false (256) 7 1023 65535 4095 0), by decide, below_setRow (HBA.out _) HLb.out _, setRow_heap _ gb _ _ _ _ (HGA.out _)⟩
        · go_wp2_with (refine wpList_store_into rfl 3 (.tmp 48) (.tmp 47) rfl gb 19 (.int .i64 (-1)) rfl rfl rfl 25 (Adf.mk ⟨0, 0, 0, 0, 0, 0⟩ ⟨0, 0, 0, 0, 0, 0⟩ ⟨0, 0, 0, 0, 0, 0⟩ false 255 7 1023 65535 4095 0).cells (Adf.mk ⟨0, 0, 0, 0, 0, 0⟩ ⟨0, 0, 0, 0, 0, 0⟩ ⟨0, 0, 0, 0, 0, 0⟩ false (-1) 7 1023 65535 4095 0).cells (HGA.out _) sizeI64 (show 19 < 25 by decide) rfl ?_)
          go_meet
          exact ⟨(Adf.mk ⟨0, 0, 0, 0, 0, 0⟩ ⟨0, 0, 0, 0, 0, 0⟩ ⟨0, 0, 0, 0, 0, 0⟩ false (-1) 7 1023 65535 4095 0), by decide, below_setRow (HBA.out _) HLb.out _, setRow_heap _ gb _ _ _ _ (HGA.out _)⟩
      · rcases (by omega : far = 0 ∨ far = 1) with rfl | rfl
        · go_wp2_with (refine wpList_store_into rfl 3 (.tmp 55) (.tmp 54) rfl gb 20 (.int .i64 (8)) rfl rfl rfl 25 (Adf.mk ⟨0, 0, 0, 0, 0, 0⟩ ⟨0, 0, 0, 0, 0, 0⟩ ⟨0, 0, 0, 0, 0, 0⟩ false 255 7 1023 65535 4095 0).cells (Adf.mk ⟨0, 0, 0, 0, 0, 0⟩ ⟨0, 0, 0, 0, 0, 0⟩ ⟨0, 0, 0, 0, 0, 0⟩ false 255 (8) 1023 65535 4095 0).cells (HGA.out _) sizeI64 (show 20 < 25 by decide) rfl ?_)
          go_meet
          exact ⟨(Adf.mk ⟨0, 0, 0, 0, 0, 0⟩ ⟨0, 0, 0, 0, 0, 0⟩ ⟨0, 0, 0, 0, 0, 0⟩ false 255 (8) 1023 65535 4095 0), by decide, below_setRow (HBA.out _) HLb.out _, setRow_heap _ gb _ _ _ _ (HGA.out _)⟩
        · go_wp2_with (refine wpList_store_into rfl 3 (.tmp 55) (.tmp 54) rfl gb 20 (.int .i64 (-1)) rfl rfl rfl 25 (Adf.mk ⟨0, 0, 0, 0, 0, 0⟩ ⟨0, 0, 0, 0, 0, 0⟩ ⟨0, 0, 0, 0, 0, 0⟩ false 255 7 1023 65535 4095 0).cells (Adf.mk ⟨0, 0, 0, 0, 0, 0⟩ ⟨0, 0, 0, 0, 0, 0⟩ ⟨0, 0, 0, 0, 0, 0⟩ false 255 (-1) 1023 65535 4095 0).cells (HGA.out _) sizeI64 (show 20 < 25 by decide) rfl ?_)
          go_meet
          exact ⟨(Adf.mk ⟨0, 0, 0, 0, 0, 0⟩ ⟨0, 0, 0, 0, 0, 0⟩ ⟨0, 0, 0, 0, 0, 0⟩ false 255 (-1) 1023 65535 4095 0), by decide, below_setRow (HBA.out _) HLb.out _, setRow_heap _ gb _ _ _ _ (HGA.out _)⟩
      · rcases (by omega : far = 0 ∨ far = 1) with rfl | rfl
        · go_wp2_with (refine wpList_store_into rfl 3 (.tmp 62) (.tmp 61) rfl gb 21 (.int .i64 (1024)) rfl rfl rfl 25 (Adf.mk ⟨0, 0, 0, 0, 0, 0⟩ ⟨0, 0, 0, 0, 0, 0⟩ ⟨0, 0, 0, 0, 0, 0⟩ false 255 7 1023 65535 4095 0).cells (Adf.mk ⟨0, 0, 0, 0, 0, 0⟩ ⟨0, 0, 0, 0, 0, 0⟩ ⟨0, 0, 0, 0, 0, 0⟩ false 255 7 (1024) 65535 4095 0).cells (HGA.out _) sizeI64 (show 21 < 25 by decide) rfl ?_)
          go_meet
          exact ⟨(Adf.mk ⟨0, 0, 0, 0, 0, 0⟩ ⟨0, 0, 0, 0, 0, 0⟩ ⟨0, 0, 0, 0, 0, 0⟩ false 255 7 (1024) 65535 4095 0), by decide, below_setRow (HBA.out _) HLb.out _, setRow_heap _ gb _ _ _ _ (HGA.out _)⟩
        · go_wp2_with (refine wpList_store_into rfl 3 (.tmp 62) (.tmp 61) rfl gb 21 (.int .i64 (-1)) rfl rfl rfl 25 (Adf.mk ⟨0, 0, 0, 0, 0, 0⟩ ⟨0, 0, 0, 0, 0, 0⟩ ⟨0, 0, 0, 0, 0, 0⟩ false 255 7 1023 65535 4095 0).cells (Adf.mk ⟨0, 0, 0, 0, 0, 0⟩ ⟨0, 0, 0, 0, 0, 0⟩ ⟨0, 0, 0, 0, 0, 0⟩ false 255 7 (-1) 65535 4095 0).cells (HGA.out _) sizeI64 (show 21 < 25 by decide) rfl ?_)
          go_meet
          exact ⟨(Adf.mk ⟨0, 0, 0, 0, 0, 0⟩ ⟨0, 0, 0, 0, 0, 0⟩ ⟨0, 0, 0, 0, 0, 0⟩ false 255 7 (-1) 65535 4095 0), by decide, below_setRow (HBA.out _) HLb.out _, setRow_heap _ gb _ _ _ _ (HGA.out _)⟩
      · rcases (by omega : far = 0 ∨ far = 1) with rfl | rfl
        · go_wp2_with (refine wpList_store_into rfl 3 (.tmp 69) (.tmp 68) rfl gb 22 (.int .i64 (65536)) rfl rfl rfl 25 (Adf.mk ⟨0, 0, 0, 0, 0, 0⟩ ⟨0, 0, 0, 0, 0, 0⟩ ⟨0, 0, 0, 0, 0, 0⟩ false 255 7 1023 65535 4095 0).cells (Adf.mk ⟨0, 0, 0, 0, 0, 0⟩ ⟨0, 0, 0, 0, 0, 0⟩ ⟨0, 0, 0, 0, 0, 0⟩ false 255 7 1023 (65536) 4095 0).cells (HGA.out _) sizeI64 (show 22 < 25 by decide) rfl ?_)
          go_meet
          exact ⟨(Adf.mk ⟨0, 0, 0, 0, 0, 0⟩ ⟨0, 0, 0, 0, 0, 0⟩ ⟨0, 0, 0, 0, 0, 0⟩ false 255 7 1023 (65536) 4095 0), by decide, below_setRow (HBA.out _) HLb.out _, setRow_heap _ gb _ _ _ _ (HGA.out _)⟩
        · go_wp2_with (refine wpList_store_into rfl 3 (.tmp 69) (.tmp 68) rfl gb 22 (.int .i64 (-1)) rfl rfl rfl 25 (Adf.mk ⟨0, 0, 0, 0, 0, 0⟩ ⟨0, 0, 0, 0, 0, 0⟩ ⟨0, 0, 0, 0, 0, 0⟩ false 255 7 1023 65535 4095 0).cells (Adf.mk ⟨0, 0, 0, 0, 0, 0⟩ ⟨0, 0, 0, 0, 0, 0⟩ ⟨0, 0, 0, 0, 0, 0⟩ false 255 7 1023 (-1) 4095 0).cells (HGA.out _) sizeI64 (show 22 < 25 by decide) rfl ?_)
          go_meet
          exact ⟨(Adf.mk ⟨0, 0, 0, 0, 0, 0⟩ ⟨0, 0, 0, 0, 0, 0⟩ ⟨0, 0, 0, 0, 0, 0⟩ false 255 7 1023 (-1) 4095 0), by decide, below_setRow (HBA.out _) HLb.out _, setRow_heap _ gb _ _ _ _ (HGA.out _)⟩
      · go_wp2_with (refine wpList_store_into rfl 3 (.tmp 75) (.tmp 74) rfl gb 24 (.int .i64 (1)) rfl rfl rfl 25 (Adf.mk ⟨0, 0, 0, 0, 0, 0⟩ ⟨0, 0, 0, 0, 0, 0⟩ ⟨0, 0, 0, 0, 0, 0⟩ false 255 7 1023 65535 4095 0).cells (Adf.mk ⟨0, 0, 0, 0, 0, 0⟩ ⟨0, 0, 0, 0, 0, 0⟩ ⟨0, 0, 0, 0, 0, 0⟩ false 255 7 1023 65535 4095 (1)).cells HGb.out sizeI64 (show 24 < 25 by decide) rfl ?_)
        go_meet
        exact ⟨(Adf.mk ⟨0, 0, 0, 0, 0, 0⟩ ⟨0, 0, 0, 0, 0, 0⟩ ⟨0, 0, 0, 0, 0, 0⟩ false 255 7 1023 65535 4095 (1)), by decide, below_setRow HB.out HLb.out _, setRow_heap _ gb _ _ _ _ HGb.out⟩
      · go_wp2_with (refine wpList_store_into rfl 3 (.tmp 41) (.tmp 40) rfl gb 23 (.int .i64 (4096)) rfl rfl rfl 25 (Adf.mk ⟨0, 0, 0, 0, 0, 0⟩ ⟨0, 0, 0, 0, 0, 0⟩ ⟨0, 0, 0, 0, 0, 0⟩ false 255 7 1023 65535 4095 0).cells (Adf.mk ⟨0, 0, 0, 0, 0, 0⟩ ⟨0, 0, 0, 0, 0, 0⟩ ⟨0, 0, 0, 0, 0, 0⟩ false 255 7 1023 65535 (4096) 0).cells HGb.out sizeI64 (show 23 < 25 by decide) rfl ?_)
        go_meet
        exact ⟨(Adf.mk ⟨0, 0, 0, 0, 0, 0⟩ ⟨0, 0, 0, 0, 0, 0⟩ ⟨0, 0, 0, 0, 0, 0⟩ false 255 7 1023 65535 (4096) 0), by decide, below_setRow HB.out HLb.out _, setRow_heap _ gb _ _ _ _ HGb.out⟩
    case rest =>
    obtain ⟨q, hq, hbel, hblk⟩ := hcut
    have T0 := Lib.hid hbel
    have T1 := Lib.hid hblk
    clear hbel hblk HLa HLb HGa
    clear HB HGb
    have HB := T0
    have HGb := T1
    clear T0 T1
    go_wp2_with (refine wpList_load_row rfl 25 (.tmp 11) rfl gb rfl 25 q.cells (0, 0) _ HGb.out Tryd.underlying25 rfl sizeAdd ?_)
    refine (add_no q E wc hq (HS.out.below HB.out).four).mono ?_
    rintro e w6 ⟨rfl, hB⟩
    clear hq HGb
    have T0 := Lib.hid (HB.out.trans (hB.mono HB.out.size))
    clear hB
    clear HB
    have HB := T0
    clear T0
    go_wp2_with (fail)
    refine (del_no ⟨⟨0, 0, 0, 0, 0, 0⟩, ⟨0, 0, 0, 0, 0, 0⟩, ⟨0, 0, 0, 0, 0, 0⟩, false, 8, 0⟩ E w6 (by decide) (HS.out.below HB.out).four).mono ?_
    rintro e w7 ⟨rfl, hB⟩
    have T0 := Lib.hid (HB.out.trans (hB.mono HB.out.size))
    clear hB
    clear HB
    have HB := T0
    clear T0
    go_wp2_with (fail)
    refine (del_yes ⟨⟨0, 0, 0, 0, 0, 0⟩, ⟨0, 0, 0, 0, 0, 0⟩, ⟨0, 0, 0, 0, 0, 0⟩, false, 7, 65535⟩ w7 (by decide)).mono ?_
    rintro e w8 ⟨g2, cap2, rfl, -, hB⟩
    have T0 := Lib.hid (HB.out.trans (hB.mono HB.out.size))
    clear hB
    clear HB
    have HB := T0
    clear T0
    go_wp2_with (fail)
    refine (del_no ⟨⟨0, 0, 0, 0, 0, 0⟩, ⟨0, 0, 0, 0, 0, 0⟩, ⟨0, 0, 0, 0, 0, 0⟩, false, 0, 65536⟩ E w8 (by decide) (HS.out.below HB.out).four).mono ?_
    rintro e w9 ⟨rfl, hB⟩
    have T0 := Lib.hid (HB.out.trans (hB.mono HB.out.size))
    clear hB
    clear HB
    have HB := T0
    clear T0
    go_wp2_with (fail)
    refine (is_err E 103 103 w9 (HS.out.below HB.out) (.inr (by decide))).mono ?_
    rintro e w10 ⟨rfl, hB⟩
    rw [show (((103 : Nat) : Int) == 103) = true by decide]
    have T0 := Lib.hid (HB.out.trans (hB.mono HB.out.size))
    clear hB
    clear HB
    have HB := T0
    clear T0
    go_wp2_with (fail)
    refine (is_err E 103 103 w10 (HS.out.below HB.out) (.inr (by decide))).mono ?_
    rintro e w11 ⟨rfl, hB⟩
    rw [show (((103 : Nat) : Int) == 103) = true by decide]
    have T0 := Lib.hid (HB.out.trans (hB.mono HB.out.size))
    clear hB
    clear HB
    have HB := T0
    clear T0
    go_wp2_with (fail)
    refine (is_err E 103 103 w11 (HS.out.below HB.out) (.inr (by decide))).mono ?_
    rintro e w12 ⟨rfl, hB⟩
    rw [show (((103 : Nat) : Int) == 103) = true by decide]
    have T0 := Lib.hid (HB.out.trans (hB.mono HB.out.size))
    clear hB
    clear HB
    have HB := T0
    clear T0
    go_wp2
    go_ret
    exact ⟨rfl, HB.out⟩
  · have T0 := Lib.hid (HB.out.alloc HB.out.size (.cells (Adf.mk ⟨0, 0, 0, 0, 0, 0⟩ ⟨0, 0, 0, 0, 0, 0⟩ ⟨0, 0, 0, 0, 0, 0⟩ true 255 7 1023 65535 0 0).cells 25))
    have HGa := Lib.hid (heap_alloc_last w1 (.cells (Adf.mk ⟨0, 0, 0, 0, 0, 0⟩ ⟨0, 0, 0, 0, 0, 0⟩ ⟨0, 0, 0, 0, 0, 0⟩ true 255 7 1023 65535 0 0).cells 25))
    have HLa := Lib.hid HB.out.size
    clear HB
    have HB := T0
    clear T0
    go_wp2_with (first
      | (refine wpList_store_row rfl 25 (.tmp 8) (.tmp 26) rfl w1.heap.size (Adf.mk ⟨0, 0, 0, 0, 0, 0⟩ ⟨0, 0, 0, 0, 0, 0⟩ ⟨0, 0, 0, 0, 0, 0⟩ true 255 7 1023 65535 0 0).cells rfl rfl 25 Go.Proofs.YtjgingfcfmpfaaaDoor.a0.cells (heap_alloc_last _ _) sizeAdd rfl (Adf.oneCell _) ?_; rw [World.setRow_alloc_new]; generalize World.alloc w1 _ = w2 at *; generalize w1.heap.size = ga at *)
      | (refine wpList_store_into rfl 3 (.tmp 28) (.const (.int .i64 65535)) rfl ga 24 (.int .i64 65535) rfl rfl rfl 25 (Adf.mk ⟨0, 0, 0, 0, 0, 0⟩ ⟨0, 0, 0, 0, 0, 0⟩ ⟨0, 0, 0, 0, 0, 0⟩ true 255 7 1023 65535 0 0).cells (Adf.mk ⟨0, 0, 0, 0, 0, 0⟩ ⟨0, 0, 0, 0, 0, 0⟩ ⟨0, 0, 0, 0, 0, 0⟩ true 255 7 1023 65535 0 65535).cells HGa.out sizeI64 (show 24 < 25 by decide) rfl ?_; have T0 := Lib.hid (below_setRow HB.out HLa.out (Adf.mk ⟨0, 0, 0, 0, 0, 0⟩ ⟨0, 0, 0, 0, 0, 0⟩ ⟨0, 0, 0, 0, 0, 0⟩ true 255 7 1023 65535 0 65535).cells); have T1 := Lib.hid (setRow_heap _ ga _ (Adf.mk ⟨0, 0, 0, 0, 0, 0⟩ ⟨0, 0, 0, 0, 0, 0⟩ ⟨0, 0, 0, 0, 0, 0⟩ true 255 7 1023 65535 0 65535).cells _ _ HGa.out); clear HB HGa; have HB := T0; have HGa := T1; clear T0 T1; generalize World.setRow _ _ _ = w3 at *)
      | (refine wpList_load_row rfl 25 (.tmp 8) rfl ga rfl 25 (Adf.mk ⟨0, 0, 0, 0, 0, 0⟩ ⟨0, 0, 0, 0, 0, 0⟩ ⟨0, 0, 0, 0, 0, 0⟩ true 255 7 1023 65535 0 65535).cells (0, 0) _ HGa.out Tryd.underlying25 rfl sizeAdd ?_))
    refine (add_yes (Adf.mk ⟨0, 0, 0, 0, 0, 0⟩ ⟨0, 0, 0, 0, 0, 0⟩ ⟨0, 0, 0, 0, 0, 0⟩ true 255 7 1023 65535 0 65535) w3 (by decide)).mono ?_
    rintro e w4 ⟨g, cap, rfl, -, hB⟩
    have T0 := Lib.hid (HB.out.trans (hB.mono HB.out.size))
    have T1 := Lib.hid ((hB.block _ (lt_blk HGa.out)).trans HGa.out)
    clear hB
    clear HB HGa
    have HB := T0
    have HGa := T1
    clear T0 T1
    have T0 := Lib.hid (HB.out.alloc HB.out.size (.cells (Adf.mk ⟨0, 0, 0, 0, 0, 0⟩ ⟨0, 0, 0, 0, 0, 0⟩ ⟨0, 0, 0, 0, 0, 0⟩ true 255 7 1023 65535 0 65535).cells 25))
    have T1 := Lib.hid (((Below.refl w4.heap.size w4).alloc (Nat.le_refl _) (.cells (Adf.mk ⟨0, 0, 0, 0, 0, 0⟩ ⟨0, 0, 0, 0, 0, 0⟩ ⟨0, 0, 0, 0, 0, 0⟩ true 255 7 1023 65535 0 65535).cells 25)).block _ (lt_blk HGa.out) |>.trans HGa.out)
    have HGb := Lib.hid (heap_alloc_last w4 (.cells (Adf.mk ⟨0, 0, 0, 0, 0, 0⟩ ⟨0, 0, 0, 0, 0, 0⟩ ⟨0, 0, 0, 0, 0, 0⟩ true 255 7 1023 65535 0 65535).cells 25))
    have HLb := Lib.hid HB.out.size
    have HG4 := Lib.hid HGa.out
    clear HB HGa
    have HB := T0
    have HGa := T1
    clear T0 T1
    go_wp2_with (first
      | (refine wpList_load_row rfl 25 (.tmp 8) rfl ga rfl 25 (Adf.mk ⟨0, 0, 0, 0, 0, 0⟩ ⟨0, 0, 0, 0, 0, 0⟩ ⟨0, 0, 0, 0, 0, 0⟩ true 255 7 1023 65535 0 65535).cells (0, 0) _ HG4.out Tryd.underlying25 rfl sizeAdd ?_)
      | (refine wpList_store_row rfl 25 (.tmp 11) (.tmp 35) rfl w4.heap.size (Adf.mk ⟨0, 0, 0, 0, 0, 0⟩ ⟨0, 0, 0, 0, 0, 0⟩ ⟨0, 0, 0, 0, 0, 0⟩ true 255 7 1023 65535 0 65535).cells rfl rfl 25 Go.Proofs.YtjgingfcfmpfaaaDoor.a0.cells (heap_alloc_last _ _) sizeAdd rfl (Adf.oneCell _) ?_; rw [World.setRow_alloc_new]; generalize World.alloc w4 _ = w5 at *; generalize w4.heap.size = gb at *))
    clear HG4
    refine (number_any _ _ _ W0.out (by omega) (by omega)).mono ?_
    rintro e w' ⟨rfl, rfl⟩
    have s0 := nmod_lo n0 6 (by omega)
    have s1 := nmod_hi n0 6 (by omega)
    generalize nmod n0 6 = kk at *
    go_upto_block 0 with fail
    go_cut [] from 38 to 75 (fun wx => ∃ q : Adf, okAdd q = false ∧ Below w.heap.size w wx ∧ wx.heap[gb]? = some (.cells q.cells 25 (0, 0)))
    case first =>
      have HBA := Lib.hid (fun o : Obj => HB.out.alloc HB.out.size o)
      have HGA := Lib.hid (fun o : Obj => (((Below.refl w5.heap.size w5).alloc (Nat.le_refl _) o).block _ (lt_blk HGb.out)).trans HGb.out)
      have d23 := cell_of_row w5 ga 23 _ _ _ HGa.out
      have d24 := cell_of_row w5 ga 24 _ _ _ HGa.out
      dsimp only [Adf.cells] at d23 d24
      rcases (by omega : kk = 0 ∨ kk = 1 ∨ kk = 2 ∨ kk = 3 ∨ kk = 4 ∨ kk = 5) with rfl | rfl | rfl | rfl | rfl | rfl
      · rcases (by omega : far = 0 ∨ far = 1) with rfl | rfl
        · go_wp2_with (refine wpList_store_into rfl 3 (.tmp 48) (.tmp 47) rfl gb 19 (.int .i64 (256)) rfl rfl rfl 25 (Adf.mk ⟨0, 0, 0, 0, 0, 0⟩ ⟨0, 0, 0, 0, 0, 0⟩ ⟨0, 0, 0, 0, 0, 0⟩ true 255 7 1023 65535 0 65535).cells (Adf.mk ⟨0, 0, 0, 0, 0, 0⟩ ⟨0, 0, 0, 0, 0, 0⟩ ⟨0, 0, 0, 0, 0, 0⟩ true (256) 7 1023 65535 0 65535).cells (HGA.out _) sizeI64 (show 19 < 25 by decide) rfl ?_)
          go_meet
          exact ⟨(Adf.mk ⟨0, 0, 0, 0, 0, 0⟩ ⟨0, 0, 0, 0, 0, 0⟩ ⟨0, 0, 0, 0, 0, 0⟩ true (256) 7 1023 65535 0 65535), by decide, below_setRow (HBA.out _) HLb.out _, setRow_heap _ gb _ _ _ _ (HGA.out _)⟩
        · go_wp2_with (refine wpList_store_into rfl 3 (.tmp 48) (.tmp 47) rfl gb 19 (.int .i64 (-1)) rfl rfl rfl 25 (Adf.mk ⟨0, 0, 0, 0, 0, 0⟩ ⟨0, 0, 0, 0, 0, 0⟩ ⟨0, 0, 0, 0, 0, 0⟩ true 255 7 1023 65535 0 65535).cells (Adf.mk ⟨0, 0, 0, 0, 0, 0⟩ ⟨0, 0, 0, 0, 0, 0⟩ ⟨0, 0, 0, 0, 0, 0⟩ true (-1) 7 1023 65535 0 65535).cells (HGA.out _) sizeI64 (show 19 < 25 by decide) rfl ?_)
          go_meet
          exact ⟨(Adf.mk ⟨0, 0, 0, 0, 0, 0⟩ ⟨0, 0, 0, 0, 0, 0⟩ ⟨0, 0, 0, 0, 0, 0⟩ true (-1) 7 1023 65535 0 65535), by decide, below_setRow (HBA.out _) HLb.out _, setRow_heap _ gb _ _ _ _ (HGA.out _)⟩
      · rcases (by omega : far = 0 ∨ far = 1) with rfl | rfl
        · go_wp2_with (refine wpList_store_into rfl 3 (.tmp 55) (.tmp 54) rfl gb 20 (.int .i64 (8)) rfl rfl rfl 25 (Adf.mk ⟨0, 0, 0, 0, 0, 0⟩ ⟨0, 0, 0, 0, 0, 0⟩ ⟨0, 0, 0, 0, 0, 0⟩ true 255 7 1023 65535 0 65535).cells (Adf.mk ⟨0, 0, 0, 0, 0, 0⟩ ⟨0, 0, 0, 0, 0, 0⟩ ⟨0, 0, 0, 0, 0, 0⟩ true 255 (8) 1023 65535 0 65535).cells (HGA.out _) sizeI64 (show 20 < 25 by decide) rfl ?_)
          go_meet
          exact ⟨(Adf.mk ⟨0, 0, 0, 0, 0, 0⟩ ⟨0, 0, 0, 0, 0, 0⟩ ⟨0, 0, 0, 0, 0, 0⟩ true 255 (8) 1023 65535 0 65535), by decide, below_setRow (HBA.out _) HLb.out _, setRow_heap _ gb _ _ _ _ (HGA.out _)⟩
        · go_wp2_with (refine wpList_store_into rfl 3 (.tmp 55) (.tmp 54) rfl gb 20 (.int .i64 (-1)) rfl rfl rfl 25 (Adf.mk ⟨0, 0, 0, 0, 0, 0⟩ ⟨0, 0, 0, 0, 0, 0⟩ ⟨0, 0, 0, 0, 0, 0⟩ true 255 7 1023 65535 0 65535).cells (Adf.mk ⟨0, 0, 0, 0, 0, 0⟩ ⟨0, 0, 0, 0, 0, 0⟩ ⟨0, 0, 0, 0, 0, 0⟩ true 255 (-1) 1023 65535 0 65535).cells (HGA.out _) sizeI64 (show 20 < 25 by decide) rfl ?_)
          go_meet
          exact ⟨(Adf.mk ⟨0, 0, 0, 0, 0, 0⟩ ⟨0, 0, 0, 0, 0, 0⟩ ⟨0, 0, 0, 0, 0, 0⟩ true 255 (-1) 1023 65535 0 65535), by decide, below_setRow (HBA.out _) HLb.out _, setRow_heap _ gb _ _ _ _ (HGA.out _)⟩
      · rcases (by omega : far = 0 ∨ far = 1) with rfl | rfl
        · go_wp2_with (refine wpList_store_into rfl 3 (.tmp 62) (.tmp 61) rfl gb 21 (.int .i64 (1024)) rfl rfl rfl 25 (Adf.mk ⟨0, 0, 0, 0, 0, 0⟩ ⟨0, 0, 0, 0, 0, 0⟩ ⟨0, 0, 0, 0, 0, 0⟩ true 255 7 1023 65535 0 65535).cells (Adf.mk ⟨0, 0, 0, 0, 0, 0⟩ ⟨0, 0, 0, 0, 0, 0⟩ ⟨0, 0, 0, 0, 0, 0⟩ true 255 7 (1024) 65535 0 65535).cells (HGA.out _) sizeI64 (show 21 < 25 by decide) rfl ?_)
          go_meet
          exact ⟨(Adf.mk ⟨0, 0, 0, 0, 0, 0⟩ ⟨0, 0, 0, 0, 0, 0⟩ ⟨0, 0, 0, 0, 0, 0⟩ true 255 7 (1024) 65535 0 65535), by decide, below_setRow (HBA.out _) HLb.out _, setRow_heap _ gb _ _ _ _ (HGA.out _)⟩
        · go_wp2_with (refine wpList_store_into rfl 3 (.tmp 62) (.tmp 61) rfl gb 21 (.int .i64 (-1)) rfl rfl rfl 25 (Adf.mk ⟨0, 0, 0, 0, 0, 0⟩ ⟨0, 0, 0, 0, 0, 0⟩ ⟨0, 0, 0, 0, 0, 0⟩ true 255 7 1023 65535 0 65535).cells (Adf.mk ⟨0, 0, 0, 0, 0, 0⟩ ⟨0, 0, 0, 0, 0, 0⟩ ⟨0, 0, 0, 0, 0, 0⟩ true 255 7 (-1) 65535 0 65535).cells (HGA.out _) sizeI64 (show 21 < 25 by decide) rfl ?_)
          go_meet
          exact ⟨(Adf.mk ⟨0, 0, 0, 0, 0, 0⟩ ⟨0, 0, 0, 0, 0, 0⟩ ⟨0, 0, 0, 0, 0, 0⟩ true 255 7 (-1) 65535 0 65535), by decide, below_setRow (HBA.out _) HLb.out _, setRow_heap _ gb _ _ _ _ (HGA.out _)⟩
      · rcases (by omega : far = 0 ∨ far = 1) with rfl | rfl
        · go_wp2_with (refine wpList_store_into rfl 3 (.tmp 69) (.tmp 68) rfl gb 22 (.int .i64 (65536)) rfl rfl rfl 25 (Adf.mk ⟨0, 0, 0, 0, 0, 0⟩ ⟨0, 0, 0, 0, 0, 0⟩ ⟨0, 0, 0, 0, 0, 0⟩ true 255 7 1023 65535 0 65535).cells (Adf.mk ⟨0, 0, 0, 0, 0, 0⟩ ⟨0, 0, 0, 0, 0, 0⟩ ⟨0, 0, 0, 0, 0, 0⟩ true 255 7 1023 (65536) 0 65535).cells (HGA.out _) sizeI64 (show 22 < 25 by decide) rfl ?_)
          go_meet
          exact ⟨(Adf.mk ⟨0, 0, 0, 0, 0, 0⟩ ⟨0, 0, 0, 0, 0, 0⟩ ⟨0, 0, 0, 0, 0, 0⟩ true 255 7 1023 (65536) 0 65535), by decide, below_setRow (HBA.out _) HLb.out _, setRow_heap _ gb _ _ _ _ (HGA.out _)⟩
        · go_wp2_with (refine wpList_store_into rfl 3 (.tmp 69) (.tmp 68) rfl gb 22 (.int .i64 (-1)) rfl rfl rfl 25 (Adf.mk ⟨0, 0, 0, 0, 0, 0⟩ ⟨0, 0, 0, 0, 0, 0⟩ ⟨0, 0, 0, 0, 0, 0⟩ true 255 7 1023 65535 0 65535).cells (Adf.mk ⟨0, 0, 0, 0, 0, 0⟩ ⟨0, 0, 0, 0, 0, 0⟩ ⟨0, 0, 0, 0, 0, 0⟩ true 255 7 1023 (-1) 0 65535).cells (HGA.out _) sizeI64 (show 22 < 25 by decide) rfl ?_)
          go_meet
          exact ⟨(Adf.mk ⟨0, 0, 0, 0, 0, 0⟩ ⟨0, 0, 0, 0, 0, 0⟩ ⟨0, 0, 0, 0, 0, 0⟩ true 255 7 1023 (-1) 0 65535), by decide, below_setRow (HBA.out _) HLb.out _, setRow_heap _ gb _ _ _ _ (HGA.out _)⟩
      · go_wp2_with (refine wpList_store_into rfl 3 (.tmp 75) (.tmp 74) rfl gb 24 (.int .i64 (65536)) rfl rfl rfl 25 (Adf.mk ⟨0, 0, 0, 0, 0, 0⟩ ⟨0, 0, 0, 0, 0, 0⟩ ⟨0, 0, 0, 0, 0, 0⟩ true 255 7 1023 65535 0 65535).cells (Adf.mk ⟨0, 0, 0, 0, 0, 0⟩ ⟨0, 0, 0, 0, 0, 0⟩ ⟨0, 0, 0, 0, 0, 0⟩ true 255 7 1023 65535 0 (65536)).cells HGb.out sizeI64 (show 24 < 25 by decide) rfl ?_)
        go_meet
        exact ⟨(Adf.mk ⟨0, 0, 0, 0, 0, 0⟩ ⟨0, 0, 0, 0, 0, 0⟩ ⟨0, 0, 0, 0, 0, 0⟩ true 255 7 1023 65535 0 (65536)), by decide, below_setRow HB.out HLb.out _, setRow_heap _ gb _ _ _ _ HGb.out⟩
      · go_wp2_with (refine wpList_store_into rfl 3 (.tmp 41) (.tmp 40) rfl gb 23 (.int .i64 (1)) rfl rfl rfl 25 (Adf.mk ⟨0, 0, 0, 0, 0, 0⟩ ⟨0, 0, 0, 0, 0, 0⟩ ⟨0, 0, 0, 0, 0, 0⟩ true 255 7 1023 65535 0 65535).cells (Adf.mk ⟨0, 0, 0, 0, 0, 0⟩ ⟨0, 0, 0, 0, 0, 0⟩ ⟨0, 0, 0, 0, 0, 0⟩ true 255 7 1023 65535 (1) 65535).cells HGb.out sizeI64 (show 23 < 25 by decide) rfl ?_)
        go_meet
        exact ⟨(Adf.mk ⟨0, 0, 0, 0, 0, 0⟩ ⟨0, 0, 0, 0, 0, 0⟩ ⟨0, 0, 0, 0, 0, 0⟩ true 255 7 1023 65535 (1) 65535), by decide, below_setRow HB.out HLb.out _, setRow_heap _ gb _ _ _ _ HGb.out⟩
    case rest =>
    obtain ⟨q, hq, hbel, hblk⟩ := hcut
    have T0 := Lib.hid hbel
    have T1 := Lib.hid hblk
    clear hbel hblk HLa HLb HGa
    clear HB HGb
    have HB := T0
    have HGb := T1
    clear T0 T1
    go_wp2_with (refine wpList_load_row rfl 25 (.tmp 11) rfl gb rfl 25 q.cells (0, 0) _ HGb.out Tryd.underlying25 rfl sizeAdd ?_)
    refine (add_no q E wc hq (HS.out.below HB.out).four).mono ?_
    rintro e w6 ⟨rfl, hB⟩
    clear hq HGb
    have T0 := Lib.hid (HB.out.trans (hB.mono HB.out.size))
    clear hB
    clear HB
    have HB := T0
    clear T0
    go_wp2_with (fail)
    refine (del_no ⟨⟨0, 0, 0, 0, 0, 0⟩, ⟨0, 0, 0, 0, 0, 0⟩, ⟨0, 0, 0, 0, 0, 0⟩, false, 8, 0⟩ E w6 (by decide) (HS.out.below HB.out).four).mono ?_
    rintro e w7 ⟨rfl, hB⟩
    have T0 := Lib.hid (HB.out.trans (hB.mono HB.out.size))
    clear hB
    clear HB
    have HB := T0
    clear T0
    go_wp2_with (fail)
    refine (del_yes ⟨⟨0, 0, 0, 0, 0, 0⟩, ⟨0, 0, 0, 0, 0, 0⟩, ⟨0, 0, 0, 0, 0, 0⟩, true, 7, 65535⟩ w7 (by decide)).mono ?_
    rintro e w8 ⟨g2, cap2, rfl, -, hB⟩
    have T0 := Lib.hid (HB.out.trans (hB.mono HB.out.size))
    clear hB
    clear HB
    have HB := T0
    clear T0
    go_wp2_with (fail)
    refine (del_no ⟨⟨0, 0, 0, 0, 0, 0⟩, ⟨0, 0, 0, 0, 0, 0⟩, ⟨0, 0, 0, 0, 0, 0⟩, false, 0, 65536⟩ E w8 (by decide) (HS.out.below HB.out).four).mono ?_
    rintro e w9 ⟨rfl, hB⟩
    have T0 := Lib.hid (HB.out.trans (hB.mono HB.out.size))
    clear hB
    clear HB
    have HB := T0
    clear T0
    go_wp2_with (fail)
    refine (is_err E 103 103 w9 (HS.out.below HB.out) (.inr (by decide))).mono ?_
    rintro e w10 ⟨rfl, hB⟩
    rw [show (((103 : Nat) : Int) == 103) = true by decide]
    have T0 := Lib.hid (HB.out.trans (hB.mono HB.out.size))
    clear hB
    clear HB
    have HB := T0
    clear T0
    go_wp2_with (fail)
    refine (is_err E 103 103 w10 (HS.out.below HB.out) (.inr (by decide))).mono ?_
    rintro e w11 ⟨rfl, hB⟩
    rw [show (((103 : Nat) : Int) == 103) = true by decide]
    have T0 := Lib.hid (HB.out.trans (hB.mono HB.out.size))
    clear hB
    clear HB
    have HB := T0
    clear T0
    go_wp2_with (fail)
    refine (is_err E 103 103 w11 (HS.out.below HB.out) (.inr (by decide))).mono ?_
    rintro e w12 ⟨rfl, hB⟩
    rw [show (((103 : Nat) : Int) == 103) = true by decide]
    have T0 := Lib.hid (HB.out.trans (hB.mono HB.out.size))
    clear hB
    clear HB
    have HB := T0
    clear T0
    go_wp2
    go_ret
    exact ⟨rfl, HB.out⟩

end Go.Proofs.YtjgingfcfmpfaaaDoor.actBounds
