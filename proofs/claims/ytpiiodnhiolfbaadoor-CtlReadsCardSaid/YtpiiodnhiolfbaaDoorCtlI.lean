/-
  CONTRACT of ctl.ReadAck where it answers a frame.
-/
import Derived.Test.YtpiiodnhiolfbaaDoorCtlH
import Derived.StillTailTactics
namespace Go.Proofs.YtpiiodnhiolfbaaDoor
open Go.ChangeShapes Go.WideShapes Go.ChangeAt Go.RowKit
set_option linter.unusedVariables false
set_option linter.unusedSimpArgs false

theorem sizeU64 : (Tryd.prog.info? 26).map (·.size) = some 1 := by kernel_rfl
set_option maxRecDepth 100000 in
set_option maxHeartbeats 8000000 in
theorem readAck_good (A : Option Addr) (n c : Nat) (xs : List Int) (E : Nat → Addr) (w : World) (h : RowB .u8 w A n xs) (hS : Sent w E S4) (hnc : n ≤ c) (hr : rdW xs n 148 28 = 0) :
    Calls Tryd.prog 18 #[.slice A n c] w fun e w' => e = .returned (.tuple #[(decA xs).val, .nilIface]) ∧ Below w.heap.size w w' := by
  have HB := Lib.hid ((Below.refl w.heap.size w).alloc (Nat.le_refl _) (.cells a0.cells 28))
  have HG := Lib.hid (heap_alloc_last w (.cells a0.cells 28))
  have HL := Lib.hid (show w.heap.size < (w.alloc (.cells a0.cells 28)).heap.size by simp)
  have HC := Lib.hid (rw_all A n c xs 148 28 E _ (h.below HB.out) (hS.below HB.out) (by omega) hnc)
  obtain ⟨hn, hk⟩ := begC_fine (rdW_fine hr).1 (by omega)
  have hn28 : n = 28 := by omega
  subst hn28
  have HR := Lib.hid (h.below HB.out)
  rw [hr, errV_zero, outW, if_pos hr] at HC
  have HE := Lib.hid (show decA xs = ⟨six xs 4, six xs 10, numAt xs 16 / 4096, numAt xs 18 / 16, mapK xs 8⟩ from rfl)
  dsimp only [decW] at HC
  generalize numAt xs 16 / 4096 = T at *
  generalize numAt xs 18 / 16 = U at *
  have hnc' : (28 : Int) ≤ (c : Int) := by omega
  clear h hS hr hn hk
  obtain ⟨b, off, rfl, _⟩ := HR.out.cells (by omega)
  go_enter Tryd.func18, Tryd.ntmps18
  go_wp2_with (fail)
  refine HC.out.mono ?_
  rintro e w2 ⟨rfl, hB⟩
  have HG2 := Lib.hid ((hB.block _ HL.out).trans HG.out)
  have HR2 := Lib.hid (HR.out.below hB)
  have HB2 := Lib.hid (HB.out.trans (hB.mono HB.out.size))
  have HL2 := Lib.hid (Nat.lt_of_lt_of_le HL.out hB.size)
  clear hB HC HG HR HB HL
  have HA3 := Lib.hid ((Below.refl w2.heap.size w2).alloc (Nat.le_refl _) (.cells (Brf.mk (six xs 4) (six xs 10) T U).cells 25))
  have HG3 := Lib.hid ((HA3.out.block _ HL2.out).trans HG2.out)
  have HB3 := Lib.hid (HB2.out.trans (HA3.out.mono HB2.out.size))
  have HL3 := Lib.hid (Nat.lt_of_lt_of_le HL2.out HA3.out.size)
  have HR3 := Lib.hid (HR2.out.below HA3.out)
  have HF3 := Lib.hid (heap_alloc_last w2 (.cells (Brf.mk (six xs 4) (six xs 10) T U).cells 25))
  go_wp2_with (first
    | (refine wpList_store_row rfl 25 (.tmp 4) (.tmp 12) rfl w2.heap.size (Brf.mk (six xs 4) (six xs 10) T U).cells rfl rfl 25 b0.cells (heap_alloc_last _ _) sizeBar rfl (Brf.oneCell _) ?_; rw [World.setRow_alloc_new]; generalize World.alloc w2 _ = w3 at *; have d12 := cell_of_row w3 w2.heap.size 12 _ _ _ HF3.out; have d13 := cell_of_row w3 w2.heap.size 13 _ _ _ HF3.out; dsimp only [Brf.cells] at d12 d13)
    | (refine wpList_load_mid rfl 23 (.tmp 18) rfl w2.heap.size 0 rfl (six xs 4).cells.toList _ (range6 HF3.out 0 _ (six_in rfl rfl rfl rfl rfl rfl)) Tryd.underlying23 rfl size6 ?_)
    | (refine wpList_load_mid rfl 23 (.tmp 20) rfl w2.heap.size 6 rfl (six xs 10).cells.toList _ (range6 HF3.out 6 _ (six_in rfl rfl rfl rfl rfl rfl)) Tryd.underlying23 rfl size6 ?_))
  have HA4 := Lib.hid ((Below.refl w3.heap.size w3).alloc (Nat.le_refl _) (.cells (Akf.mk (six xs 4) (six xs 10) T U 0).cells 28))
  have HF4 := Lib.hid (heap_alloc_last w3 (.cells (Akf.mk (six xs 4) (six xs 10) T U 0).cells 28))
  go_wp2_with (refine wpList_store_row rfl 28 (.tmp 6) (.tmp 26) rfl w3.heap.size (Akf.mk (six xs 4) (six xs 10) T U 0).cells rfl rfl 28 a0.cells (heap_alloc_last _ _) sizeAck rfl (Akf.oneCell _) ?_; rw [World.setRow_alloc_new]; generalize World.alloc w3 _ = w4 at *)
  clear d12 d13 HF3
  have d20 : (c = 20) = False := by simp; omega
  have k20 : (20 : Int) ≤ (28 : Int) := by omega
  go_wp2
  go_loopw [30] (fun i wr => ∃ k : Nat, k ≤ 8 ∧ i = .int .i64 k ∧ Below w3.heap.size w3 wr ∧ wr.heap[w3.heap.size]? = some (.cells (Akf.mk (six xs 4) (six xs 10) T U (mapK xs k)).cells 28 (0, 0))) (fun i _ => 8 - (intOf i).toNat)
  case atStart => exact ⟨0, by omega, rfl, HA4.out, HF4.out⟩
  case round =>
    obtain ⟨k, hk, rfl, hbel, hblk⟩ := hrel
    have HA := Lib.hid hbel
    have HF := Lib.hid hblk
    have d14 := cell_of_row wr w3.heap.size 14 _ _ _ hblk
    have HRr := Lib.hid (HR3.out.below hbel)
    have HM := Lib.hid (mapK_wf xs (fun i hi => HR3.out.wf8 i hi))
    clear hbel hblk HA4 HF4
    rcases (by omega : k = 0 ∨ k = 1 ∨ k = 2 ∨ k = 3 ∨ k = 4 ∨ k = 5 ∨ k = 6 ∨ k = 7 ∨ k = 8) with rfl | rfl | rfl | rfl | rfl | rfl | rfl | rfl | rfl
    · have c1 : wr.cell? ⟨b, off + 20 + 0, none⟩ = some (.int .u8 (xs.getD 20 0)) := HRr.out.at_ 20 (by omega)
      obtain ⟨m0, m1⟩ := HM.out 0 (by omega)
      obtain ⟨v0, v1⟩ := HR3.out.wf8 20 (by omega)
      have HS := Lib.hid (show mapK xs 0 + xs.getD 20 0 * 1 = mapK xs (0 + 1) from rfl)
      dsimp only [Akf.cells] at d14
      generalize hmk : mapK xs 0 = s at *
      generalize xs.getD 20 0 = v at *
      have m2 : s < 1 := m1
      have y1 : IntKind.u64.wrap v = v := IntWalk.u64_in _ ⟨by omega, by omega⟩
      have y2 : IntKind.u64.wrap (v * 1) = v * 1 := IntWalk.u64_in _ ⟨by omega, by omega⟩
      have y3 : bits .or .u64 s v = s + v := by have := or_map 0 s v m0 m2 v0 (by omega); simpa using this
      have z : IntKind.i64.wrap 0 = 0 := by decide
      clear m1
      go_wp2
      go_still_tail 9, (by kernel_rfl)
      change wpList _ _ _ _ _ wr.drew
      have HF2 := Lib.hid (show wr.drew.heap[w3.heap.size]? = some (.cells (Akf.mk (six xs 4) (six xs 10) T U s).cells 28 (0, 0)) from HF.out)
      have HA2 := Lib.hid HA.out.drew
      generalize wr.drew = w5 at *
      go_wp2_with (refine wpList_store_into rfl 26 (.tmp 43) (.tmp 42) rfl w3.heap.size 14 (.int .u64 (s + v)) rfl rfl rfl 28 (Akf.mk (six xs 4) (six xs 10) T U s).cells (Akf.mk (six xs 4) (six xs 10) T U (s + v)).cells HF2.out sizeU64 (show 14 < 15 by decide) rfl ?_)
      have HF5 := Lib.hid (setRow_heap w5 w3.heap.size _ (Akf.mk (six xs 4) (six xs 10) T U (s + v)).cells 28 (0, 0) HF2.out)
      have HA5 := Lib.hid (below_setRow HA2.out (Nat.le_refl _) (Akf.mk (six xs 4) (six xs 10) T U (s + v)).cells)
      generalize World.setRow _ _ _ = w6 at *
      go_wp2
      go_roundw
      case rel => exact ⟨0 + 1, by omega, by go_num, HA5.out, by rw [← HS.out]; simpa using HF5.out⟩
      case measure => simp [intOf]
    · have c1 : wr.cell? ⟨b, off + 20 + 1, none⟩ = some (.int .u8 (xs.getD 21 0)) := HRr.out.at_ 21 (by omega)
      obtain ⟨m0, m1⟩ := HM.out 1 (by omega)
      obtain ⟨v0, v1⟩ := HR3.out.wf8 21 (by omega)
      have HS := Lib.hid (show mapK xs 1 + xs.getD 21 0 * 256 = mapK xs (1 + 1) from rfl)
      dsimp only [Akf.cells] at d14
      generalize hmk : mapK xs 1 = s at *
      generalize xs.getD 21 0 = v at *
      have m2 : s < 256 := m1
      have y1 : IntKind.u64.wrap v = v := IntWalk.u64_in _ ⟨by omega, by omega⟩
      have y2 : IntKind.u64.wrap (v * 256) = v * 256 := IntWalk.u64_in _ ⟨by omega, by omega⟩
      have y3 : bits .or .u64 s (v * 256) = s + v * 256 := or_map 8 s v m0 m2 v0 (by omega)
      have z : IntKind.i64.wrap 8 = 8 := by decide
      clear m1
      go_wp2
      go_still_tail 9, (by kernel_rfl)
      change wpList _ _ _ _ _ wr.drew
      have HF2 := Lib.hid (show wr.drew.heap[w3.heap.size]? = some (.cells (Akf.mk (six xs 4) (six xs 10) T U s).cells 28 (0, 0)) from HF.out)
      have HA2 := Lib.hid HA.out.drew
      generalize wr.drew = w5 at *
      go_wp2_with (refine wpList_store_into rfl 26 (.tmp 43) (.tmp 42) rfl w3.heap.size 14 (.int .u64 (s + v * 256)) rfl rfl rfl 28 (Akf.mk (six xs 4) (six xs 10) T U s).cells (Akf.mk (six xs 4) (six xs 10) T U (s + v * 256)).cells HF2.out sizeU64 (show 14 < 15 by decide) rfl ?_)
      have HF5 := Lib.hid (setRow_heap w5 w3.heap.size _ (Akf.mk (six xs 4) (six xs 10) T U (s + v * 256)).cells 28 (0, 0) HF2.out)
      have HA5 := Lib.hid (below_setRow HA2.out (Nat.le_refl _) (Akf.mk (six xs 4) (six xs 10) T U (s + v * 256)).cells)
      generalize World.setRow _ _ _ = w6 at *
      go_wp2
      go_roundw
      case rel => exact ⟨1 + 1, by omega, by go_num, HA5.out, by rw [← HS.out]; simpa using HF5.out⟩
      case measure => simp [intOf]
    · have c1 : wr.cell? ⟨b, off + 20 + 2, none⟩ = some (.int .u8 (xs.getD 22 0)) := HRr.out.at_ 22 (by omega)
      obtain ⟨m0, m1⟩ := HM.out 2 (by omega)
      obtain ⟨v0, v1⟩ := HR3.out.wf8 22 (by omega)
      have HS := Lib.hid (show mapK xs 2 + xs.getD 22 0 * 65536 = mapK xs (2 + 1) from rfl)
      dsimp only [Akf.cells] at d14
      generalize hmk : mapK xs 2 = s at *
      generalize xs.getD 22 0 = v at *
      have m2 : s < 65536 := m1
      have y1 : IntKind.u64.wrap v = v := IntWalk.u64_in _ ⟨by omega, by omega⟩
      have y2 : IntKind.u64.wrap (v * 65536) = v * 65536 := IntWalk.u64_in _ ⟨by omega, by omega⟩
      have y3 : bits .or .u64 s (v * 65536) = s + v * 65536 := or_map 16 s v m0 m2 v0 (by omega)
      have z : IntKind.i64.wrap 16 = 16 := by decide
      clear m1
      go_wp2
      go_still_tail 9, (by kernel_rfl)
      change wpList _ _ _ _ _ wr.drew
      have HF2 := Lib.hid (show wr.drew.heap[w3.heap.size]? = some (.cells (Akf.mk (six xs 4) (six xs 10) T U s).cells 28 (0, 0)) from HF.out)
      have HA2 := Lib.hid HA.out.drew
      generalize wr.drew = w5 at *
      go_wp2_with (refine wpList_store_into rfl 26 (.tmp 43) (.tmp 42) rfl w3.heap.size 14 (.int .u64 (s + v * 65536)) rfl rfl rfl 28 (Akf.mk (six xs 4) (six xs 10) T U s).cells (Akf.mk (six xs 4) (six xs 10) T U (s + v * 65536)).cells HF2.out sizeU64 (show 14 < 15 by decide) rfl ?_)
      have HF5 := Lib.hid (setRow_heap w5 w3.heap.size _ (Akf.mk (six xs 4) (six xs 10) T U (s + v * 65536)).cells 28 (0, 0) HF2.out)
      have HA5 := Lib.hid (below_setRow HA2.out (Nat.le_refl _) (Akf.mk (six xs 4) (six xs 10) T U (s + v * 65536)).cells)
      generalize World.setRow _ _ _ = w6 at *
      go_wp2
      go_roundw
      case rel => exact ⟨2 + 1, by omega, by go_num, HA5.out, by rw [← HS.out]; simpa using HF5.out⟩
      case measure => simp [intOf]
    · have c1 : wr.cell? ⟨b, off + 20 + 3, none⟩ = some (.int .u8 (xs.getD 23 0)) := HRr.out.at_ 23 (by omega)
      obtain ⟨m0, m1⟩ := HM.out 3 (by omega)
      obtain ⟨v0, v1⟩ := HR3.out.wf8 23 (by omega)
      have HS := Lib.hid (show mapK xs 3 + xs.getD 23 0 * 16777216 = mapK xs (3 + 1) from rfl)
      dsimp only [Akf.cells] at d14
      generalize hmk : mapK xs 3 = s at *
      generalize xs.getD 23 0 = v at *
      have m2 : s < 16777216 := m1
      have y1 : IntKind.u64.wrap v = v := IntWalk.u64_in _ ⟨by omega, by omega⟩
      have y2 : IntKind.u64.wrap (v * 16777216) = v * 16777216 := IntWalk.u64_in _ ⟨by omega, by omega⟩
      have y3 : bits .or .u64 s (v * 16777216) = s + v * 16777216 := or_map 24 s v m0 m2 v0 (by omega)
      have z : IntKind.i64.wrap 24 = 24 := by decide
      clear m1
      go_wp2
      go_still_tail 9, (by kernel_rfl)
      change wpList _ _ _ _ _ wr.drew
      have HF2 := Lib.hid (show wr.drew.heap[w3.heap.size]? = some (.cells (Akf.mk (six xs 4) (six xs 10) T U s).cells 28 (0, 0)) from HF.out)
      have HA2 := Lib.hid HA.out.drew
      generalize wr.drew = w5 at *
      go_wp2_with (refine wpList_store_into rfl 26 (.tmp 43) (.tmp 42) rfl w3.heap.size 14 (.int .u64 (s + v * 16777216)) rfl rfl rfl 28 (Akf.mk (six xs 4) (six xs 10) T U s).cells (Akf.mk (six xs 4) (six xs 10) T U (s + v * 16777216)).cells HF2.out sizeU64 (show 14 < 15 by decide) rfl ?_)
      have HF5 := Lib.hid (setRow_heap w5 w3.heap.size _ (Akf.mk (six xs 4) (six xs 10) T U (s + v * 16777216)).cells 28 (0, 0) HF2.out)
      have HA5 := Lib.hid (below_setRow HA2.out (Nat.le_refl _) (Akf.mk (six xs 4) (six xs 10) T U (s + v * 16777216)).cells)
      generalize World.setRow _ _ _ = w6 at *
      go_wp2
      go_roundw
      case rel => exact ⟨3 + 1, by omega, by go_num, HA5.out, by rw [← HS.out]; simpa using HF5.out⟩
      case measure => simp [intOf]
    · have c1 : wr.cell? ⟨b, off + 20 + 4, none⟩ = some (.int .u8 (xs.getD 24 0)) := HRr.out.at_ 24 (by omega)
      obtain ⟨m0, m1⟩ := HM.out 4 (by omega)
      obtain ⟨v0, v1⟩ := HR3.out.wf8 24 (by omega)
      have HS := Lib.hid (show mapK xs 4 + xs.getD 24 0 * 4294967296 = mapK xs (4 + 1) from rfl)
      dsimp only [Akf.cells] at d14
      generalize hmk : mapK xs 4 = s at *
      generalize xs.getD 24 0 = v at *
      have m2 : s < 4294967296 := m1
      have y1 : IntKind.u64.wrap v = v := IntWalk.u64_in _ ⟨by omega, by omega⟩
      have y2 : IntKind.u64.wrap (v * 4294967296) = v * 4294967296 := IntWalk.u64_in _ ⟨by omega, by omega⟩
      have y3 : bits .or .u64 s (v * 4294967296) = s + v * 4294967296 := or_map 32 s v m0 m2 v0 (by omega)
      have z : IntKind.i64.wrap 32 = 32 := by decide
      clear m1
      go_wp2
      go_still_tail 9, (by kernel_rfl)
      change wpList _ _ _ _ _ wr.drew
      have HF2 := Lib.hid (show wr.drew.heap[w3.heap.size]? = some (.cells (Akf.mk (six xs 4) (six xs 10) T U s).cells 28 (0, 0)) from HF.out)
      have HA2 := Lib.hid HA.out.drew
      generalize wr.drew = w5 at *
      go_wp2_with (refine wpList_store_into rfl 26 (.tmp 43) (.tmp 42) rfl w3.heap.size 14 (.int .u64 (s + v * 4294967296)) rfl rfl rfl 28 (Akf.mk (six xs 4) (six xs 10) T U s).cells (Akf.mk (six xs 4) (six xs 10) T U (s + v * 4294967296)).cells HF2.out sizeU64 (show 14 < 15 by decide) rfl ?_)
      have HF5 := Lib.hid (setRow_heap w5 w3.heap.size _ (Akf.mk (six xs 4) (six xs 10) T U (s + v * 4294967296)).cells 28 (0, 0) HF2.out)
      have HA5 := Lib.hid (below_setRow HA2.out (Nat.le_refl _) (Akf.mk (six xs 4) (six xs 10) T U (s + v * 4294967296)).cells)
      generalize World.setRow _ _ _ = w6 at *
      go_wp2
      go_roundw
      case rel => exact ⟨4 + 1, by omega, by go_num, HA5.out, by rw [← HS.out]; simpa using HF5.out⟩
      case measure => simp [intOf]
    · have c1 : wr.cell? ⟨b, off + 20 + 5, none⟩ = some (.int .u8 (xs.getD 25 0)) := HRr.out.at_ 25 (by omega)
      obtain ⟨m0, m1⟩ := HM.out 5 (by omega)
      obtain ⟨v0, v1⟩ := HR3.out.wf8 25 (by omega)
      have HS := Lib.hid (show mapK xs 5 + xs.getD 25 0 * 1099511627776 = mapK xs (5 + 1) from rfl)
      dsimp only [Akf.cells] at d14
      generalize hmk : mapK xs 5 = s at *
      generalize xs.getD 25 0 = v at *
      have m2 : s < 1099511627776 := m1
      have y1 : IntKind.u64.wrap v = v := IntWalk.u64_in _ ⟨by omega, by omega⟩
      have y2 : IntKind.u64.wrap (v * 1099511627776) = v * 1099511627776 := IntWalk.u64_in _ ⟨by omega, by omega⟩
      have y3 : bits .or .u64 s (v * 1099511627776) = s + v * 1099511627776 := or_map 40 s v m0 m2 v0 (by omega)
      have z : IntKind.i64.wrap 40 = 40 := by decide
      clear m1
      go_wp2
      go_still_tail 9, (by kernel_rfl)
      change wpList _ _ _ _ _ wr.drew
      have HF2 := Lib.hid (show wr.drew.heap[w3.heap.size]? = some (.cells (Akf.mk (six xs 4) (six xs 10) T U s).cells 28 (0, 0)) from HF.out)
      have HA2 := Lib.hid HA.out.drew
      generalize wr.drew = w5 at *
      go_wp2_with (refine wpList_store_into rfl 26 (.tmp 43) (.tmp 42) rfl w3.heap.size 14 (.int .u64 (s + v * 1099511627776)) rfl rfl rfl 28 (Akf.mk (six xs 4) (six xs 10) T U s).cells (Akf.mk (six xs 4) (six xs 10) T U (s + v * 1099511627776)).cells HF2.out sizeU64 (show 14 < 15 by decide) rfl ?_)
      have HF5 := Lib.hid (setRow_heap w5 w3.heap.size _ (Akf.mk (six xs 4) (six xs 10) T U (s + v * 1099511627776)).cells 28 (0, 0) HF2.out)
      have HA5 := Lib.hid (below_setRow HA2.out (Nat.le_refl _) (Akf.mk (six xs 4) (six xs 10) T U (s + v * 1099511627776)).cells)
      generalize World.setRow _ _ _ = w6 at *
      go_wp2
      go_roundw
      case rel => exact ⟨5 + 1, by omega, by go_num, HA5.out, by rw [← HS.out]; simpa using HF5.out⟩
      case measure => simp [intOf]
    · have c1 : wr.cell? ⟨b, off + 20 + 6, none⟩ = some (.int .u8 (xs.getD 26 0)) := HRr.out.at_ 26 (by omega)
      obtain ⟨m0, m1⟩ := HM.out 6 (by omega)
      obtain ⟨v0, v1⟩ := HR3.out.wf8 26 (by omega)
      have HS := Lib.hid (show mapK xs 6 + xs.getD 26 0 * 281474976710656 = mapK xs (6 + 1) from rfl)
      dsimp only [Akf.cells] at d14
      generalize hmk : mapK xs 6 = s at *
      generalize xs.getD 26 0 = v at *
      have m2 : s < 281474976710656 := m1
      have y1 : IntKind.u64.wrap v = v := IntWalk.u64_in _ ⟨by omega, by omega⟩
      have y2 : IntKind.u64.wrap (v * 281474976710656) = v * 281474976710656 := IntWalk.u64_in _ ⟨by omega, by omega⟩
      have y3 : bits .or .u64 s (v * 281474976710656) = s + v * 281474976710656 := or_map 48 s v m0 m2 v0 (by omega)
      have z : IntKind.i64.wrap 48 = 48 := by decide
      clear m1
      go_wp2
      go_still_tail 9, (by kernel_rfl)
      change wpList _ _ _ _ _ wr.drew
      have HF2 := Lib.hid (show wr.drew.heap[w3.heap.size]? = some (.cells (Akf.mk (six xs 4) (six xs 10) T U s).cells 28 (0, 0)) from HF.out)
      have HA2 := Lib.hid HA.out.drew
      generalize wr.drew = w5 at *
      go_wp2_with (refine wpList_store_into rfl 26 (.tmp 43) (.tmp 42) rfl w3.heap.size 14 (.int .u64 (s + v * 281474976710656)) rfl rfl rfl 28 (Akf.mk (six xs 4) (six xs 10) T U s).cells (Akf.mk (six xs 4) (six xs 10) T U (s + v * 281474976710656)).cells HF2.out sizeU64 (show 14 < 15 by decide) rfl ?_)
      have HF5 := Lib.hid (setRow_heap w5 w3.heap.size _ (Akf.mk (six xs 4) (six xs 10) T U (s + v * 281474976710656)).cells 28 (0, 0) HF2.out)
      have HA5 := Lib.hid (below_setRow HA2.out (Nat.le_refl _) (Akf.mk (six xs 4) (six xs 10) T U (s + v * 281474976710656)).cells)
      generalize World.setRow _ _ _ = w6 at *
      go_wp2
      go_roundw
      case rel => exact ⟨6 + 1, by omega, by go_num, HA5.out, by rw [← HS.out]; simpa using HF5.out⟩
      case measure => simp [intOf]
    · have c1 : wr.cell? ⟨b, off + 20 + 7, none⟩ = some (.int .u8 (xs.getD 27 0)) := HRr.out.at_ 27 (by omega)
      obtain ⟨m0, m1⟩ := HM.out 7 (by omega)
      obtain ⟨v0, v1⟩ := HR3.out.wf8 27 (by omega)
      have HS := Lib.hid (show mapK xs 7 + xs.getD 27 0 * 72057594037927936 = mapK xs (7 + 1) from rfl)
      dsimp only [Akf.cells] at d14
      generalize hmk : mapK xs 7 = s at *
      generalize xs.getD 27 0 = v at *
      have m2 : s < 72057594037927936 := m1
      have y1 : IntKind.u64.wrap v = v := IntWalk.u64_in _ ⟨by omega, by omega⟩
      have y2 : IntKind.u64.wrap (v * 72057594037927936) = v * 72057594037927936 := IntWalk.u64_in _ ⟨by omega, by omega⟩
      have y3 : bits .or .u64 s (v * 72057594037927936) = s + v * 72057594037927936 := or_map 56 s v m0 m2 v0 (by omega)
      have z : IntKind.i64.wrap 56 = 56 := by decide
      clear m1
      go_wp2
      go_still_tail 9, (by kernel_rfl)
      change wpList _ _ _ _ _ wr.drew
      have HF2 := Lib.hid (show wr.drew.heap[w3.heap.size]? = some (.cells (Akf.mk (six xs 4) (six xs 10) T U s).cells 28 (0, 0)) from HF.out)
      have HA2 := Lib.hid HA.out.drew
      generalize wr.drew = w5 at *
      go_wp2_with (refine wpList_store_into rfl 26 (.tmp 43) (.tmp 42) rfl w3.heap.size 14 (.int .u64 (s + v * 72057594037927936)) rfl rfl rfl 28 (Akf.mk (six xs 4) (six xs 10) T U s).cells (Akf.mk (six xs 4) (six xs 10) T U (s + v * 72057594037927936)).cells HF2.out sizeU64 (show 14 < 15 by decide) rfl ?_)
      have HF5 := Lib.hid (setRow_heap w5 w3.heap.size _ (Akf.mk (six xs 4) (six xs 10) T U (s + v * 72057594037927936)).cells 28 (0, 0) HF2.out)
      have HA5 := Lib.hid (below_setRow HA2.out (Nat.le_refl _) (Akf.mk (six xs 4) (six xs 10) T U (s + v * 72057594037927936)).cells)
      generalize World.setRow _ _ _ = w6 at *
      go_wp2
      go_roundw
      case rel => exact ⟨7 + 1, by omega, by go_num, HA5.out, by rw [← HS.out]; simpa using HF5.out⟩
      case measure => simp [intOf]
    · have HGr := Lib.hid ((HA.out.block _ HL3.out).trans HG3.out)
      have HBr := Lib.hid (HB3.out.trans (HA.out.mono HB3.out.size))
      clear d14
      go_wp2_with (first | (refine wpList_load_row rfl 28 (.tmp 6) rfl w3.heap.size rfl 28 (Akf.mk (six xs 4) (six xs 10) T U (mapK xs 8)).cells (0, 0) _ HF.out Tryd.underlying28 rfl sizeAck ?_) | (refine wpList_store_row rfl 28 (.tmp 2) (.tmp 45) rfl w.heap.size (Akf.mk (six xs 4) (six xs 10) T U (mapK xs 8)).cells rfl rfl 28 a0.cells HGr.out sizeAck rfl (Akf.oneCell _) ?_))
      have HGz := Lib.hid (setRow_heap wr w.heap.size a0.cells (Akf.mk (six xs 4) (six xs 10) T U (mapK xs 8)).cells 28 (0, 0) HGr.out)
      refine bodyPost_ret (v := .tuple #[.agg (Akf.mk (six xs 4) (six xs 10) T U (mapK xs 8)).cells, .nilIface]) (results_cell_slot (p := 2) (q := 3) Tryd.results18 _ _ w.heap.size _ (Akf.mk (six xs 4) (six xs 10) T U (mapK xs 8)).cells _ _ rfl HGz.out Tryd.underlying28 rfl sizeAck) rfl ⟨by rw [HE.out], below_setRow HBr.out (Nat.le_refl _) _⟩
end Go.Proofs.YtpiiodnhiolfbaaDoor
