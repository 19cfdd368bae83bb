/-
  CONTRACT of ctl.readWindow.
-/
import Derived.Test.YtpiiodnhiolfbaaDoorCtlE
namespace Go.Proofs.YtpiiodnhiolfbaaDoor
open Go.ChangeShapes Go.WideShapes Go.ChangeAt Go.RowKit
set_option linter.unusedVariables false
set_option linter.unusedSimpArgs false

set_option maxRecDepth 100000 in
set_option maxHeartbeats 8000000 in
theorem rw_good (A : Option Addr) (n c : Nat) (xs : List Int) (k : Int) (size : Int) (E : Nat → Addr) (w : World) (h : RowB .u8 w A n xs) (hS : Sent w E S4) (hsz : 20 ≤ size) (hnc : n ≤ c) (hb : begC xs n k size = 0) (hf : shB xs = true) :
    Calls Tryd.prog 38 #[.slice A n c, .int .u8 k, .int .i64 size] w fun e w' => e = .returned (.tuple #[(decW xs).val, .nilIface]) ∧ Below w.heap.size w w' := by
  obtain ⟨hn, hk⟩ := begC_fine hb (by omega)
  have HB := Lib.hid ((Below.refl w.heap.size w).alloc (Nat.le_refl _) (.cells b0.cells 25))
  have HC := Lib.hid (begins_any A n c xs k size E _ (h.below HB.out) (hS.below HB.out))
  rw [hb, errV_zero] at HC
  have HG := Lib.hid (heap_alloc_last w (.cells b0.cells 25))
  have HR := Lib.hid (h.below HB.out)
  obtain ⟨b, off, rfl, hc⟩ := HR.out.cells (by omega)
  have hle := h.le
  unfold maxLen at hle
  have hn20 : (20 : Int) ≤ (n : Int) := by omega
  have hnc' : (n : Int) ≤ (c : Int) := by omega
  have hN := Lib.hid (show 20 ≤ n by omega)
  have HT := Lib.hid (number_off 16 b off n c xs (w.alloc (.cells b0.cells 25)) HR.out (by omega))
  have HU := Lib.hid (number_off 18 b off n c xs (w.alloc (.cells b0.cells 25)) HR.out (by omega))
  obtain ⟨t0, t1⟩ := numAt_wf HR.out 16 (by omega)
  obtain ⟨u0, u1⟩ := numAt_wf HR.out 18 (by omega)
  clear hc h hb
  go_enter Tryd.func38, Tryd.ntmps38
  go_wp2_with (fail)
  refine HC.out.mono ?_
  rintro e w2 ⟨rfl, rfl⟩
  have HL := Lib.hid (show w.heap.size < (w.alloc (.cells b0.cells 25)).heap.size by simp)
  generalize w.alloc (.cells b0.cells 25) = w1 at *
  clear HC
  go_wp2
  go_quiet ((go_at_call 40; exact quiet_left (number_off _ _ _ _ _ xs _ (HR.out.drewN _) (by have := hN.out; omega))))
  have HB2 := Lib.hid (below_drewN HB.out nq)
  have HG2 := Lib.hid (show (w1.drewN nq).heap[w.heap.size]? = some (.cells b0.cells 25 (0, 0)) from HG.out)
  have HR2 := Lib.hid (HR.out.drewN nq)
  have HL2 := Lib.hid (show w.heap.size < (w1.drewN nq).heap.size from HL.out)
  generalize w1.drewN nq = w2 at *
  clear HT HU HB HG HR HL
  have HV := Lib.hid (show ∀ w' : World, RowB .u8 w' (some ⟨b, off, none⟩) n xs → w'.cell? ⟨b, off + 1, none⟩ = some (.int .u8 (xs.getD 1 0)) ∧ w'.cell? ⟨b, off + 2, none⟩ = some (.int .u8 (xs.getD 2 0)) ∧ w'.cell? ⟨b, off + 3, none⟩ = some (.int .u8 (xs.getD 3 0)) from
    fun w' h => ⟨h.at_ 1 (by omega), h.at_ 2 (by omega), h.at_ 3 (by omega)⟩)
  have HSH := Lib.hid (show shB xs = (xs.getD 1 0 == 0 && xs.getD 2 0 == 0 && xs.getD 3 0 == 0 && numAt xs 16 % 4096 == 4 && numAt xs 18 % 16 == 0 && okTS (numAt xs 16 / 4096) (numAt xs 18 / 16)) from rfl)
  rw [hf] at HSH
  have HI := Lib.hid (inRange_any (numAt xs 16 / 4096) (numAt xs 18 / 16))
  generalize ht : numAt xs 16 = T at *
  generalize hu : numAt xs 18 = U at *
  have HTT := Lib.hid ht
  have HUU := Lib.hid hu
  clear ht hu hk hf hS
  generalize xs.getD 1 0 = v1 at *
  generalize xs.getD 2 0 = v2 at *
  generalize xs.getD 3 0 = v3 at *
  generalize okTS (T / 4096) (U / 16) = ok at *
  have b1 : (1 : Int) < (n : Int) := by omega
  have b2 : (2 : Int) < (n : Int) := by omega
  have b3 : (3 : Int) < (n : Int) := by omega
  have HA3 := Lib.hid ((Below.refl w2.heap.size w2).alloc (Nat.le_refl _) (.cells (Brf.mk ⟨0, 0, 0, 0, 0, 0⟩ ⟨0, 0, 0, 0, 0, 0⟩ (T / 4096) (U / 16)).cells 25))
  have HB3 := Lib.hid (HB2.out.trans (HA3.out.mono HB2.out.size))
  have HG3 := Lib.hid ((HA3.out.block _ HL2.out).trans HG2.out)
  have HR3 := Lib.hid (HR2.out.below HA3.out)
  have HF3 := Lib.hid (heap_alloc_last w2 (.cells (Brf.mk ⟨0, 0, 0, 0, 0, 0⟩ ⟨0, 0, 0, 0, 0, 0⟩ (T / 4096) (U / 16)).cells 25))
  have hall := HSH.out.symm
  simp only [Bool.and_eq_true] at hall
  obtain ⟨⟨⟨⟨⟨e1, e2⟩, e3⟩, e4⟩, e5⟩, hok⟩ := hall
  have fe1 : (v1 != 0) = false := by simpa [bne] using e1
  have fe2 : (v2 != 0) = false := by simpa [bne] using e2
  have fe3 : (v3 != 0) = false := by simpa [bne] using e3
  have fe4 : (T % 4096 != 4) = false := by simpa [bne] using e4
  have fe5 : (U % 16 != 0) = false := by simpa [bne] using e5
  rw [hok] at HI
  have HD := Lib.hid (show decW xs = ⟨six xs 4, six xs 10, T / 4096, U / 16⟩ by unfold decW; rw [HTT.out, HUU.out])
  clear HSH e1 e2 e3 e4 e5 hok HTT HUU
  go_wp2_with (refine wpList_store_row rfl 25 (.tmp 11) (.tmp 30) rfl w2.heap.size (Brf.mk ⟨0, 0, 0, 0, 0, 0⟩ ⟨0, 0, 0, 0, 0, 0⟩ (T / 4096) (U / 16)).cells rfl rfl 25 b0.cells (heap_alloc_last _ _) sizeBar rfl (Brf.oneCell _) ?_; rw [World.setRow_alloc_new]; generalize World.alloc w2 _ = w3 at *; obtain ⟨c1, c2, c3⟩ := HV.out w3 HR3.out; have d12 := cell_of_row w3 w2.heap.size 12 _ _ _ HF3.out; have d13 := cell_of_row w3 w2.heap.size 13 _ _ _ HF3.out; dsimp only [Brf.cells] at d12 d13)
  refine (HI.out _).mono ?_
  rintro e w4 ⟨rfl, rfl⟩
  have HLF := Lib.hid (show w2.heap.size < w3.heap.size by
    by_cases hp : w2.heap.size < w3.heap.size
    · exact hp
    · have := HF3.out; rw [Array.getElem?_eq_none (Nat.le_of_not_lt hp)] at this; cases this)
  have HM4 := Lib.hid (show (six xs 4).cells.toList.length = Nat.min (n - 4) 6 by have := hN.out; show 6 = min (n - 4) 6; omega)
  have HM10 := Lib.hid (show (six xs 10).cells.toList.length = Nat.min (n - 10) 6 by have := hN.out; show 6 = min (n - 10) 6; omega)
  have d4 : (c = 4) = False := by simp; omega
  have d10 : (c = 10) = False := by simp; omega
  have k4 : (4 : Int) ≤ (n : Int) := by omega
  have k10 : (10 : Int) ≤ (n : Int) := by omega
  have k4s : (4 : Int) ≤ size := by omega
  have k10s : (10 : Int) ≤ size := by omega
  have hN4 : 4 + 6 ≤ n := by have := hN.out; omega
  have hN10 : 10 + 6 ≤ n := by have := hN.out; omega
  have HAA := HA3
  clear c1 c2 c3 d12 d13 HV HI HA3
  go_wp2
  have HA := Lib.hid (show Below w2.heap.size w2 w3 from HAA.out)
  go_region_law ((refine step_copy_into rfl (.tmp 68) (.tmp 70) 32 5 rfl Tryd.underlying32 sizeU8 w2.heap.size 0 6 6 ⟨b, off + 4, none⟩ (n - 4) (c - 4) rfl rfl (⟨⟨0, 0, 0, 0, 0, 0⟩, ⟨0, 0, 0, 0, 0, 0⟩, T / 4096, U / 16⟩ : Brf).cells (⟨six xs 4, ⟨0, 0, 0, 0, 0, 0⟩, T / 4096, U / 16⟩ : Brf).cells 25 HF3.out (six xs 4).cells.toList HM4.out (six_cells (HR3.out.drewN 1) 4 hN4) (by simp) (six xs 4).one rfl ?_; intro w5 hg ho hb))
  have HF3' := Lib.hid hg.out
  have HB3' := Lib.hid (hb.out w2.heap.size w2 (HA.out.drew) (Nat.le_refl _))
  clear HF3 HA hg ho hb
  have HF3 := HF3'
  have HA := HB3'
  have HR3 := Lib.hid (HR2.out.below HA.out)
  clear HF3' HB3'
  go_wp2
  go_region_law ((refine step_copy_into rfl (.tmp 73) (.tmp 75) 32 5 rfl Tryd.underlying32 sizeU8 w2.heap.size 6 6 6 ⟨b, off + 10, none⟩ (n - 10) (c - 10) rfl rfl (⟨six xs 4, ⟨0, 0, 0, 0, 0, 0⟩, T / 4096, U / 16⟩ : Brf).cells (⟨six xs 4, six xs 10, T / 4096, U / 16⟩ : Brf).cells 25 HF3.out (six xs 10).cells.toList HM10.out (six_cells (HR3.out.drewN 1) 10 hN10) (by simp) (six xs 10).one rfl ?_; intro w6 hg ho hb))
  have HF3' := Lib.hid hg.out
  have HB3' := Lib.hid (hb.out w2.heap.size w2 (HA.out.drew) (Nat.le_refl _))
  clear HF3 HA hg ho hb
  have HF3 := HF3'
  have HA := HB3'
  have HR3 := Lib.hid (HR2.out.below HA.out)
  clear HF3' HB3'
  have HGr := Lib.hid ((HA.out.block _ HL2.out).trans HG2.out)
  have HBr := Lib.hid (HB2.out.trans (HA.out.mono HB2.out.size))
  go_wp2_with (first | (refine wpList_load_row rfl 25 (.tmp 11) rfl w2.heap.size rfl 25 (⟨six xs 4, six xs 10, T / 4096, U / 16⟩ : Brf).cells (0, 0) _ HF3.out Tryd.underlying25 rfl sizeBar ?_) | (refine wpList_store_row rfl 25 (.tmp 6) (.tmp 77) rfl w.heap.size (⟨six xs 4, six xs 10, T / 4096, U / 16⟩ : Brf).cells rfl rfl 25 b0.cells HGr.out sizeBar rfl (Brf.oneCell _) ?_))
  have HGz := Lib.hid (setRow_heap w6 w.heap.size b0.cells (⟨six xs 4, six xs 10, T / 4096, U / 16⟩ : Brf).cells 25 (0, 0) HGr.out)
  refine bodyPost_ret (v := .tuple #[.agg (⟨six xs 4, six xs 10, T / 4096, U / 16⟩ : Brf).cells, .nilIface]) (results_cell_slot (p := 6) (q := 7) Tryd.results38 _ _ w.heap.size _ (⟨six xs 4, six xs 10, T / 4096, U / 16⟩ : Brf).cells _ _ rfl HGz.out Tryd.underlying25 rfl sizeBar) rfl ⟨by rw [HD.out], below_setRow HBr.out (Nat.le_refl _) _⟩
end Go.Proofs.YtpiiodnhiolfbaaDoor
