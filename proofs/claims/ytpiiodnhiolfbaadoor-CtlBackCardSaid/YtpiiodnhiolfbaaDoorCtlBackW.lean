/-
  The walk of muezzin/muezzinlaw4.CtlBack: the Go text returns true.
-/
import Derived.Test.YtpiiodnhiolfbaaDoorCtlBackV
import Derived.Test.YtpiiodnhiolfbaaDoorStand
import Derived.Test.YtpiiodnhiolfbaaDoorOpenC
import Derived.Test.YtpiiodnhiolfbaaDoorErr
import Derived.WalkKit
import Derived.ProofKit
import Derived.Below
namespace Go.Proofs.YtpiiodnhiolfbaaDoor.ctlBack
open Go.ChangeShapes Go.WideShapes Go.ChangeAt Go.RowKit Go.Joins
set_option linter.unusedVariables false
set_option linter.unusedSimpArgs false

set_option maxRecDepth 100000 in
set_option maxHeartbeats 8000000 in
theorem walk100 (f0 : Brf) (f1 : Akf) (f2 : Plf) (w : World) (E : Nat → Addr) (hS : Sent w E S14) (w0 : IsBar f0) (w1 : IsAck f1) (w2 : IsPoll f2) (hok0 : okTS f0.tid f0.seq = true) (hok1 : okTS f1.tid f1.seq = false) (hok2 : okAID f2.aid = false) :
    Calls Tryd.prog 5 #[f0.val, f1.val, f2.val] w fun e w' => e = .returned (.bool true) ∧ Below w.heap.size w w' := by
  have HS := Lib.hid hS
  have FA0 := Lib.hid (bar_facts f0 w0 hok0 _ rfl)
  clear w0 w1 w2 hS
  have HB0 := Lib.hid (show Below w.heap.size w (((w.alloc (.cells f0.cells 25)).alloc (.cells f1.cells 28)).alloc (.cells f2.cells 30)) from (((Below.refl w.heap.size w).alloc (Nat.le_refl _) _).alloc (by simp) _).alloc (by simp; omega) _)
  have HG0 := Lib.hid (show (((w.alloc (.cells f0.cells 25)).alloc (.cells f1.cells 28)).alloc (.cells f2.cells 30)).heap[w.heap.size]? = some (.cells f0.cells 25 (0, 0)) from (heap_alloc_old _ _ (by simp; omega)).trans ((heap_alloc_old _ _ (by simp)).trans (heap_alloc_new w _)))
  have HG1 := Lib.hid (show (((w.alloc (.cells f0.cells 25)).alloc (.cells f1.cells 28)).alloc (.cells f2.cells 30)).heap[w.heap.size + 1]? = some (.cells f1.cells 28 (0, 0)) from (heap_alloc_old _ _ (by simp)).trans (by have := heap_alloc_new (w.alloc (.cells f0.cells 25)) (.cells f1.cells 28); rwa [show (w.alloc (.cells f0.cells 25)).heap.size = w.heap.size + 1 by simp] at this))
  have HG2 := Lib.hid (show (((w.alloc (.cells f0.cells 25)).alloc (.cells f1.cells 28)).alloc (.cells f2.cells 30)).heap[w.heap.size + 1 + 1]? = some (.cells f2.cells 30 (0, 0)) from by have := heap_alloc_new ((w.alloc (.cells f0.cells 25)).alloc (.cells f1.cells 28)) (.cells f2.cells 30); rwa [show ((w.alloc (.cells f0.cells 25)).alloc (.cells f1.cells 28)).heap.size = w.heap.size + 1 + 1 by simp] at this)
  have HZ := Lib.hid (show w.heap.size + 1 + 1 < (((w.alloc (.cells f0.cells 25)).alloc (.cells f1.cells 28)).alloc (.cells f2.cells 30)).heap.size by simp)
  go_enter Tryd.func5, Tryd.ntmps5
  go_wp2_with (fail)
  generalize World.alloc (World.alloc (World.alloc w _) _) _ = w0 at *
  refine (first_any _).mono ?_
  rintro e w1 ⟨rfl, hB⟩
  have HB1 := Lib.hid hB
  clear hB
  have HGa := Lib.hid ((HB1.out.block _ (by have := HZ.out; omega)).trans HG0.out)
  go_wp2_with (refine wpList_load_row rfl 25 (.tmp 3) rfl w.heap.size rfl 25 f0.cells (0, 0) _ HGa.out Tryd.underlying25 rfl sizeBar ?_)
  clear HGa
  refine (bar_yes f0 w1 hok0).mono ?_
  rintro e w2 ⟨gx0, cx0, rfl, hO, hB⟩
  have HB2 := Lib.hid (HB1.out.trans ((hB).mono HB1.out.size))
  clear hB
  generalize encW 132 f0.t f0.f f0.tid f0.seq = L0 at *
  have HO0 := Lib.hid hO
  have HN0 := Lib.hid (show cx0 ≥ 20 from hO.cap_le)
  clear hO
  have HX0 := Lib.hid (show w1.heap.size ≤ gx0 ∧ gx0 < w2.heap.size from HO0.out.lt)
  have HSm := Lib.hid (Nat.le_refl w2.heap.size)
  have HGa := Lib.hid ((HB2.out.block _ (by have := HZ.out; omega)).trans HG1.out)
  go_wp2_with (refine wpList_load_row rfl 28 (.tmp 4) rfl (w.heap.size + 1) rfl 28 f1.cells (0, 0) _ HGa.out Tryd.underlying28 rfl sizeAck ?_)
  clear HGa
  refine (ack_no f1 E w2 hok1 (HS.out.below (HB0.out.trans (HB2.out.mono HB0.out.size))).four).mono ?_
  rintro e w3 ⟨rfl, hB⟩
  have HB3 := Lib.hid (HB2.out.trans ((hB).mono HB2.out.size))
  have HMt := Lib.hid (Nat.le_trans HSm.out (hB).size)
  clear HSm
  have HSm := HMt
  clear HMt
  have HOt := Lib.hid (HO0.out.below hB HO0.out.lt.2)
  clear HO0
  have HO0 := HOt
  clear HOt
  clear hB
  have HGa := Lib.hid ((HB3.out.block _ (by have := HZ.out; omega)).trans HG2.out)
  go_wp2_with (refine wpList_load_row rfl 30 (.tmp 5) rfl (w.heap.size + 1 + 1) rfl 30 f2.cells (0, 0) _ HGa.out Tryd.underlying30 rfl sizePoll ?_)
  clear HGa
  have HMq := HSm
  refine (poll_no f2 E w3 hok2 (HS.out.below (HB0.out.trans (HB3.out.mono HB0.out.size))).four).mono ?_
  rintro e w4 ⟨rfl, hB⟩
  have HB4 := Lib.hid (HB3.out.trans ((hB).mono HB3.out.size))
  have HMt := Lib.hid (Nat.le_trans HSm.out (hB).size)
  clear HSm
  have HSm := HMt
  clear HMt
  have HOt := Lib.hid (HO0.out.below hB HO0.out.lt.2)
  clear HO0
  have HO0 := HOt
  clear HOt
  clear hB
  go_wp2_with (fail)
  have HC := Lib.hid (readBar_all (some ⟨gx0, 0, none⟩) 20 cx0 L0 E w4 (HO0.out.row8 FA0.out.2.1) (HS.out.below (HB0.out.trans (HB4.out.mono HB0.out.size))).four HN0.out)
  rw [FA0.out.2.2.1, FA0.out.2.2.2.1, errV_zero] at HC
  refine (HC.out).mono ?_
  rintro e w5 ⟨rfl, hB⟩
  have HB5 := Lib.hid (HB4.out.trans ((hB).mono HB4.out.size))
  have HMt := Lib.hid (Nat.le_trans HSm.out (hB).size)
  clear HSm
  have HSm := HMt
  clear HMt
  have HOt := Lib.hid (HO0.out.below hB HO0.out.lt.2)
  clear HO0
  have HO0 := HOt
  clear HOt
  clear hB
  clear HC
  have HMp := HSm
  have HA := Lib.hid ((Below.refl w5.heap.size w5).alloc (Nat.le_refl _) (.cells f0.cells 25))
  have HB6 := Lib.hid (HB5.out.trans ((HA.out).mono HB5.out.size))
  have HMt := Lib.hid (Nat.le_trans HSm.out (HA.out).size)
  clear HSm
  have HSm := HMt
  clear HMt
  have HOt := Lib.hid (HO0.out.below HA.out HO0.out.lt.2)
  clear HO0
  have HO0 := HOt
  clear HOt
  have HFp := Lib.hid (heap_alloc_last w5 (.cells f0.cells 25))
  have HLp := Lib.hid (show w5.heap.size < (w5.alloc (.cells f0.cells 25)).heap.size by simp)
  clear HA
  go_wp2_with (first
    | (refine wpList_store_row rfl 25 (.tmp 14) (.tmp 53) rfl w5.heap.size f0.cells rfl rfl 25 Go.Proofs.YtpiiodnhiolfbaaDoor.b0.cells (heap_alloc_last _ _) sizeBar rfl (Brf.oneCell _) ?_; rw [World.setRow_alloc_new]; generalize World.alloc w5 _ = w6 at *))
  have HC := Lib.hid (readAck_all (some ⟨gx0, 0, none⟩) 20 cx0 L0 E w6 (HO0.out.row8 FA0.out.2.1) (HS.out.below (HB0.out.trans (HB6.out.mono HB0.out.size))).four HN0.out)
  rw [FA0.out.2.2.2.2.1, show errV E 105 = errP (E 105) from rfl] at HC
  generalize outA L0 20 = qa at HC
  refine (HC.out).mono ?_
  rintro e w7 ⟨rfl, hB⟩
  have HB7 := Lib.hid (HB6.out.trans ((hB).mono HB6.out.size))
  have HMt := Lib.hid (Nat.le_trans HSm.out (hB).size)
  clear HSm
  have HSm := HMt
  clear HMt
  have HOt := Lib.hid (HO0.out.below hB HO0.out.lt.2)
  clear HO0
  have HO0 := HOt
  clear HOt
  have HFt := Lib.hid (((hB).block _ HLp.out).trans HFp.out)
  have HLt := Lib.hid (Nat.lt_of_lt_of_le HLp.out (hB).size)
  clear HFp HLp
  have HFp := HFt
  have HLp := HLt
  clear HFt HLt
  clear hB
  clear HC
  have HPg := Lib.hid (show gx0 < w5.heap.size from Nat.lt_of_lt_of_le HX0.out.2 HMp.out)
  have HA := Lib.hid ((Below.refl w7.heap.size w7).alloc (Nat.le_refl _) (.cells qa.cells 28))
  have HB8 := Lib.hid (HB7.out.trans ((HA.out).mono HB7.out.size))
  have HMt := Lib.hid (Nat.le_trans HSm.out (HA.out).size)
  clear HSm
  have HSm := HMt
  clear HMt
  have HOt := Lib.hid (HO0.out.below HA.out HO0.out.lt.2)
  clear HO0
  have HO0 := HOt
  clear HOt
  have HFt := Lib.hid (((HA.out).block _ HLp.out).trans HFp.out)
  have HLt := Lib.hid (Nat.lt_of_lt_of_le HLp.out (HA.out).size)
  clear HFp HLp
  have HFp := HFt
  have HLp := HLt
  clear HFt HLt
  clear HA
  go_wp2_with (first
    | (refine wpList_store_row rfl 28 (.tmp 16) (.tmp 58) rfl w7.heap.size qa.cells rfl rfl 28 Go.Proofs.YtpiiodnhiolfbaaDoor.a0.cells (heap_alloc_last _ _) sizeAck rfl (Akf.oneCell _) ?_; rw [World.setRow_alloc_new]; generalize World.alloc w7 _ = w8 at *)
    | (refine app_stand rfl (.tmp 61) (.tmp 62) rfl w1.heap.size gx0 20 cx0 L0 rfl (World.ownsRow.alloc HO0.out _) ⟨w8.heap.size, 0, none⟩ 1 1 [0] rfl rfl (World.news_of_block (cs := #[.int .u8 0]) (t := 5) (fr := (0, 0)) (heap_alloc_new w8 _)) (by omega) (by have := HO0.out.lt; simp; omega) ?_; intro gy cy w9 hOy hby hst hk))
  have HB9 := Lib.hid ((HB8.out.alloc HB8.out.size (.cells #[.int .u8 0] 5)).trans (hby.out.mono HB1.out.size))
  have HRb := Lib.hid (show RowB .u8 w9 (some ⟨gx0, 0, none⟩) 20 L0 from ⟨FA0.out.1, by unfold maxLen; omega, fun i hi => by have := FA0.out.2.1 i hi; simpa [IntKind.min, IntKind.max, IntKind.signed, IntKind.bits] using this, fun _ => ⟨gx0, 0, rfl, fun i hi => by rw [Nat.zero_add]; exact hst.out i hi⟩⟩)
  have HFt := Lib.hid ((hk.out _ (by have := HLp.out; simp; omega) (by have := HPg.out; omega)).trans ((heap_alloc_old w8 _ HLp.out).trans HFp.out))
  have HLt := Lib.hid (show w5.heap.size < w9.heap.size from by have := HLp.out; have := hby.out.size; simp at this; omega)
  clear HFp HLp
  have HFp := HFt
  have HLp := HLt
  clear HFt HLt
  clear HO0 hby hst hk HSm
  have HC := Lib.hid (readBar_all (some ⟨gy, 0, none⟩) 21 cy (L0 ++ [0]) E w9 (hOy.out.row8 (wf_snoc FA0.out.1 FA0.out.2.1)) (HS.out.below (HB0.out.trans (HB9.out.mono HB0.out.size))).four hOy.out.cap_le)
  rw [FA0.out.2.2.2.2.2.1, show errV E 102 = errP (E 102) from rfl] at HC
  generalize outW (L0 ++ [0]) 21 132 20 = qb at HC
  refine (HC.out).mono ?_
  rintro e w10 ⟨rfl, hB⟩
  have HB10 := Lib.hid (HB9.out.trans ((hB).mono HB9.out.size))
  have HFt := Lib.hid (((hB).block _ HLp.out).trans HFp.out)
  have HLt := Lib.hid (Nat.lt_of_lt_of_le HLp.out (hB).size)
  clear HFp HLp
  have HFp := HFt
  have HLp := HLt
  clear HFt HLt
  have HRt := Lib.hid (HRb.out.below hB)
  clear HRb
  have HRb := HRt
  clear HRt
  clear hB
  clear HC hOy
  have HA := Lib.hid ((Below.refl w10.heap.size w10).alloc (Nat.le_refl _) (.cells qb.cells 25))
  have HB11 := Lib.hid (HB10.out.trans ((HA.out).mono HB10.out.size))
  have HFt := Lib.hid (((HA.out).block _ HLp.out).trans HFp.out)
  have HLt := Lib.hid (Nat.lt_of_lt_of_le HLp.out (HA.out).size)
  clear HFp HLp
  have HFp := HFt
  have HLp := HLt
  clear HFt HLt
  have HRt := Lib.hid (HRb.out.below HA.out)
  clear HRb
  have HRb := HRt
  clear HRt
  have HGa := Lib.hid ((HB11.out.block _ (by have := HZ.out; omega)).trans HG0.out)
  clear HA
  go_wp2_with (first
    | (refine wpList_store_row rfl 25 (.tmp 18) (.tmp 65) rfl w10.heap.size qb.cells rfl rfl 25 Go.Proofs.YtpiiodnhiolfbaaDoor.b0.cells (heap_alloc_last _ _) sizeBar rfl (Brf.oneCell _) ?_; rw [World.setRow_alloc_new]; generalize World.alloc w10 _ = w11 at *)
    | (refine wpList_load_if (by rfl) 25 (.tmp 14) rfl w5.heap.size rfl 25 f0.cells (0, 0) _ HFp.out Tryd.underlying25 rfl sizeBar ?_)
    | (refine wpList_load_if (by rfl) 25 (.tmp 3) rfl w.heap.size rfl 25 f0.cells (0, 0) _ HGa.out Tryd.underlying25 rfl sizeBar ?_))
  clear HGa
  refine (sameBar_any f0 f0 w11).mono ?_
  rintro e w12 ⟨rfl, hB⟩
  have HB12 := Lib.hid (HB11.out.trans ((hB).mono HB11.out.size))
  have HFt := Lib.hid (((hB).block _ HLp.out).trans HFp.out)
  have HLt := Lib.hid (Nat.lt_of_lt_of_le HLp.out (hB).size)
  clear HFp HLp
  have HFp := HFt
  have HLp := HLt
  clear HFt HLt
  have HRt := Lib.hid (HRb.out.below hB)
  clear HRb
  have HRb := HRt
  clear HRt
  clear hB
  rw [sameW_refl]
  go_wp2_with (fail)
  refine (is_err E 105 105 w12 (HS.out.below (HB0.out.trans (HB12.out.mono HB0.out.size))) (.inr (by decide))).mono ?_
  rintro e w13 ⟨rfl, hB⟩
  have HB13 := Lib.hid (HB12.out.trans ((hB).mono HB12.out.size))
  have HFt := Lib.hid (((hB).block _ HLp.out).trans HFp.out)
  have HLt := Lib.hid (Nat.lt_of_lt_of_le HLp.out (hB).size)
  clear HFp HLp
  have HFp := HFt
  have HLp := HLt
  clear HFt HLt
  have HRt := Lib.hid (HRb.out.below hB)
  clear HRb
  have HRb := HRt
  clear HRt
  clear hB
  go_wp2_with (fail)
  refine (is_err E 102 102 w13 (HS.out.below (HB0.out.trans (HB13.out.mono HB0.out.size))) (.inr (by decide))).mono ?_
  rintro e w14 ⟨rfl, hB⟩
  have HB14 := Lib.hid (HB13.out.trans ((hB).mono HB13.out.size))
  have HFt := Lib.hid (((hB).block _ HLp.out).trans HFp.out)
  have HLt := Lib.hid (Nat.lt_of_lt_of_le HLp.out (hB).size)
  clear HFp HLp
  have HFp := HFt
  have HLp := HLt
  clear HFt HLt
  have HRt := Lib.hid (HRb.out.below hB)
  clear HRb
  have HRb := HRt
  clear HRt
  clear hB
  go_wp2_with (fail)
  refine (kindC_any _ 20 _ L0 w14 HRb.out).mono ?_
  rintro e w' ⟨rfl, rfl⟩
  rw [FA0.out.2.2.2.2.2.2]
  clear HRb HFp HLp
  go_wp2
  go_ret
  exact ⟨rfl, HB0.out.trans (HB14.out.mono HB0.out.size)⟩

set_option maxRecDepth 100000 in
set_option maxHeartbeats 8000000 in
theorem walk101 (f0 : Brf) (f1 : Akf) (f2 : Plf) (w : World) (E : Nat → Addr) (hS : Sent w E S14) (w0 : IsBar f0) (w1 : IsAck f1) (w2 : IsPoll f2) (hok0 : okTS f0.tid f0.seq = true) (hok1 : okTS f1.tid f1.seq = false) (hok2 : okAID f2.aid = true) :
    Calls Tryd.prog 5 #[f0.val, f1.val, f2.val] w fun e w' => e = .returned (.bool true) ∧ Below w.heap.size w w' := by
  have HS := Lib.hid hS
  have FA0 := Lib.hid (bar_facts f0 w0 hok0 _ rfl)
  have FA2 := Lib.hid (poll_facts f2 w2 hok2 _ rfl)
  clear w0 w1 w2 hS
  have HB0 := Lib.hid (show Below w.heap.size w (((w.alloc (.cells f0.cells 25)).alloc (.cells f1.cells 28)).alloc (.cells f2.cells 30)) from (((Below.refl w.heap.size w).alloc (Nat.le_refl _) _).alloc (by simp) _).alloc (by simp; omega) _)
  have HG0 := Lib.hid (show (((w.alloc (.cells f0.cells 25)).alloc (.cells f1.cells 28)).alloc (.cells f2.cells 30)).heap[w.heap.size]? = some (.cells f0.cells 25 (0, 0)) from (heap_alloc_old _ _ (by simp; omega)).trans ((heap_alloc_old _ _ (by simp)).trans (heap_alloc_new w _)))
  have HG1 := Lib.hid (show (((w.alloc (.cells f0.cells 25)).alloc (.cells f1.cells 28)).alloc (.cells f2.cells 30)).heap[w.heap.size + 1]? = some (.cells f1.cells 28 (0, 0)) from (heap_alloc_old _ _ (by simp)).trans (by have := heap_alloc_new (w.alloc (.cells f0.cells 25)) (.cells f1.cells 28); rwa [show (w.alloc (.cells f0.cells 25)).heap.size = w.heap.size + 1 by simp] at this))
  have HG2 := Lib.hid (show (((w.alloc (.cells f0.cells 25)).alloc (.cells f1.cells 28)).alloc (.cells f2.cells 30)).heap[w.heap.size + 1 + 1]? = some (.cells f2.cells 30 (0, 0)) from by have := heap_alloc_new ((w.alloc (.cells f0.cells 25)).alloc (.cells f1.cells 28)) (.cells f2.cells 30); rwa [show ((w.alloc (.cells f0.cells 25)).alloc (.cells f1.cells 28)).heap.size = w.heap.size + 1 + 1 by simp] at this)
  have HZ := Lib.hid (show w.heap.size + 1 + 1 < (((w.alloc (.cells f0.cells 25)).alloc (.cells f1.cells 28)).alloc (.cells f2.cells 30)).heap.size by simp)
  go_enter Tryd.func5, Tryd.ntmps5
  go_wp2_with (fail)
  generalize World.alloc (World.alloc (World.alloc w _) _) _ = w0 at *
  refine (first_any _).mono ?_
  rintro e w1 ⟨rfl, hB⟩
  have HB1 := Lib.hid hB
  clear hB
  have HGa := Lib.hid ((HB1.out.block _ (by have := HZ.out; omega)).trans HG0.out)
  go_wp2_with (refine wpList_load_row rfl 25 (.tmp 3) rfl w.heap.size rfl 25 f0.cells (0, 0) _ HGa.out Tryd.underlying25 rfl sizeBar ?_)
  clear HGa
  refine (bar_yes f0 w1 hok0).mono ?_
  rintro e w2 ⟨gx0, cx0, rfl, hO, hB⟩
  have HB2 := Lib.hid (HB1.out.trans ((hB).mono HB1.out.size))
  clear hB
  generalize encW 132 f0.t f0.f f0.tid f0.seq = L0 at *
  have HO0 := Lib.hid hO
  have HN0 := Lib.hid (show cx0 ≥ 20 from hO.cap_le)
  clear hO
  have HX0 := Lib.hid (show w1.heap.size ≤ gx0 ∧ gx0 < w2.heap.size from HO0.out.lt)
  have HSm := Lib.hid (Nat.le_refl w2.heap.size)
  have HGa := Lib.hid ((HB2.out.block _ (by have := HZ.out; omega)).trans HG1.out)
  go_wp2_with (refine wpList_load_row rfl 28 (.tmp 4) rfl (w.heap.size + 1) rfl 28 f1.cells (0, 0) _ HGa.out Tryd.underlying28 rfl sizeAck ?_)
  clear HGa
  refine (ack_no f1 E w2 hok1 (HS.out.below (HB0.out.trans (HB2.out.mono HB0.out.size))).four).mono ?_
  rintro e w3 ⟨rfl, hB⟩
  have HB3 := Lib.hid (HB2.out.trans ((hB).mono HB2.out.size))
  have HMt := Lib.hid (Nat.le_trans HSm.out (hB).size)
  clear HSm
  have HSm := HMt
  clear HMt
  have HOt := Lib.hid (HO0.out.below hB HO0.out.lt.2)
  clear HO0
  have HO0 := HOt
  clear HOt
  clear hB
  have HGa := Lib.hid ((HB3.out.block _ (by have := HZ.out; omega)).trans HG2.out)
  go_wp2_with (refine wpList_load_row rfl 30 (.tmp 5) rfl (w.heap.size + 1 + 1) rfl 30 f2.cells (0, 0) _ HGa.out Tryd.underlying30 rfl sizePoll ?_)
  clear HGa
  have HMq := HSm
  refine (poll_yes f2 w3 hok2).mono ?_
  rintro e w4 ⟨gx2, cx2, rfl, hO, hB⟩
  have HB4 := Lib.hid (HB3.out.trans ((hB).mono HB3.out.size))
  have HMt := Lib.hid (Nat.le_trans HSm.out (hB).size)
  clear HSm
  have HSm := HMt
  clear HMt
  have HOt := Lib.hid (HO0.out.below hB HO0.out.lt.2)
  clear HO0
  have HO0 := HOt
  clear HOt
  clear hB
  generalize encP f2 = L2 at *
  have HO2 := Lib.hid hO
  have HN2 := Lib.hid (show cx2 ≥ 16 from hO.cap_le)
  clear hO
  have HX2 := Lib.hid (show w3.heap.size ≤ gx2 ∧ gx2 < w4.heap.size from HO2.out.lt)
  go_wp2_with (fail)
  have HC := Lib.hid (readBar_all (some ⟨gx0, 0, none⟩) 20 cx0 L0 E w4 (HO0.out.row8 FA0.out.2.1) (HS.out.below (HB0.out.trans (HB4.out.mono HB0.out.size))).four HN0.out)
  rw [FA0.out.2.2.1, FA0.out.2.2.2.1, errV_zero] at HC
  refine (HC.out).mono ?_
  rintro e w5 ⟨rfl, hB⟩
  have HB5 := Lib.hid (HB4.out.trans ((hB).mono HB4.out.size))
  have HMt := Lib.hid (Nat.le_trans HSm.out (hB).size)
  clear HSm
  have HSm := HMt
  clear HMt
  have HOt := Lib.hid (HO0.out.below hB HO0.out.lt.2)
  clear HO0
  have HO0 := HOt
  clear HOt
  have HOt := Lib.hid (HO2.out.below hB HO2.out.lt.2)
  clear HO2
  have HO2 := HOt
  clear HOt
  clear hB
  clear HC
  have HMp := HSm
  have HA := Lib.hid ((Below.refl w5.heap.size w5).alloc (Nat.le_refl _) (.cells f0.cells 25))
  have HB6 := Lib.hid (HB5.out.trans ((HA.out).mono HB5.out.size))
  have HMt := Lib.hid (Nat.le_trans HSm.out (HA.out).size)
  clear HSm
  have HSm := HMt
  clear HMt
  have HOt := Lib.hid (HO0.out.below HA.out HO0.out.lt.2)
  clear HO0
  have HO0 := HOt
  clear HOt
  have HOt := Lib.hid (HO2.out.below HA.out HO2.out.lt.2)
  clear HO2
  have HO2 := HOt
  clear HOt
  have HFp := Lib.hid (heap_alloc_last w5 (.cells f0.cells 25))
  have HLp := Lib.hid (show w5.heap.size < (w5.alloc (.cells f0.cells 25)).heap.size by simp)
  clear HA
  go_wp2_with (first
    | (refine wpList_store_row rfl 25 (.tmp 14) (.tmp 53) rfl w5.heap.size f0.cells rfl rfl 25 Go.Proofs.YtpiiodnhiolfbaaDoor.b0.cells (heap_alloc_last _ _) sizeBar rfl (Brf.oneCell _) ?_; rw [World.setRow_alloc_new]; generalize World.alloc w5 _ = w6 at *))
  have HC := Lib.hid (readAck_all (some ⟨gx0, 0, none⟩) 20 cx0 L0 E w6 (HO0.out.row8 FA0.out.2.1) (HS.out.below (HB0.out.trans (HB6.out.mono HB0.out.size))).four HN0.out)
  rw [FA0.out.2.2.2.2.1, show errV E 105 = errP (E 105) from rfl] at HC
  generalize outA L0 20 = qa at HC
  refine (HC.out).mono ?_
  rintro e w7 ⟨rfl, hB⟩
  have HB7 := Lib.hid (HB6.out.trans ((hB).mono HB6.out.size))
  have HMt := Lib.hid (Nat.le_trans HSm.out (hB).size)
  clear HSm
  have HSm := HMt
  clear HMt
  have HOt := Lib.hid (HO0.out.below hB HO0.out.lt.2)
  clear HO0
  have HO0 := HOt
  clear HOt
  have HOt := Lib.hid (HO2.out.below hB HO2.out.lt.2)
  clear HO2
  have HO2 := HOt
  clear HOt
  have HFt := Lib.hid (((hB).block _ HLp.out).trans HFp.out)
  have HLt := Lib.hid (Nat.lt_of_lt_of_le HLp.out (hB).size)
  clear HFp HLp
  have HFp := HFt
  have HLp := HLt
  clear HFt HLt
  clear hB
  clear HC
  have HM2 := Lib.hid (show gx0 < gx2 from by have h1 := HX2.out; have h2 := HX0.out; have h3 := HMq.out; omega)
  have HPg := Lib.hid (show gx0 < w5.heap.size from Nat.lt_of_lt_of_le HX0.out.2 HMp.out)
  have HA := Lib.hid ((Below.refl w7.heap.size w7).alloc (Nat.le_refl _) (.cells qa.cells 28))
  have HB8 := Lib.hid (HB7.out.trans ((HA.out).mono HB7.out.size))
  have HMt := Lib.hid (Nat.le_trans HSm.out (HA.out).size)
  clear HSm
  have HSm := HMt
  clear HMt
  have HOt := Lib.hid (HO0.out.below HA.out HO0.out.lt.2)
  clear HO0
  have HO0 := HOt
  clear HOt
  have HOt := Lib.hid (HO2.out.below HA.out HO2.out.lt.2)
  clear HO2
  have HO2 := HOt
  clear HOt
  have HFt := Lib.hid (((HA.out).block _ HLp.out).trans HFp.out)
  have HLt := Lib.hid (Nat.lt_of_lt_of_le HLp.out (HA.out).size)
  clear HFp HLp
  have HFp := HFt
  have HLp := HLt
  clear HFt HLt
  clear HA
  go_wp2_with (first
    | (refine wpList_store_row rfl 28 (.tmp 16) (.tmp 58) rfl w7.heap.size qa.cells rfl rfl 28 Go.Proofs.YtpiiodnhiolfbaaDoor.a0.cells (heap_alloc_last _ _) sizeAck rfl (Akf.oneCell _) ?_; rw [World.setRow_alloc_new]; generalize World.alloc w7 _ = w8 at *)
    | (refine app_stand rfl (.tmp 61) (.tmp 62) rfl w1.heap.size gx0 20 cx0 L0 rfl (World.ownsRow.alloc HO0.out _) ⟨w8.heap.size, 0, none⟩ 1 1 [0] rfl rfl (World.news_of_block (cs := #[.int .u8 0]) (t := 5) (fr := (0, 0)) (heap_alloc_new w8 _)) (by omega) (by have := HO0.out.lt; simp; omega) ?_; intro gy cy w9 hOy hby hst hk))
  have HB9 := Lib.hid ((HB8.out.alloc HB8.out.size (.cells #[.int .u8 0] 5)).trans (hby.out.mono HB1.out.size))
  have HRb := Lib.hid (show RowB .u8 w9 (some ⟨gx0, 0, none⟩) 20 L0 from ⟨FA0.out.1, by unfold maxLen; omega, fun i hi => by have := FA0.out.2.1 i hi; simpa [IntKind.min, IntKind.max, IntKind.signed, IntKind.bits] using this, fun _ => ⟨gx0, 0, rfl, fun i hi => by rw [Nat.zero_add]; exact hst.out i hi⟩⟩)
  have HOt := Lib.hid (HO2.out.of_block ((hk.out gx2 (by have := HO2.out.lt; simp; omega) (by have := HM2.out; omega)).trans (heap_alloc_old w8 _ HO2.out.lt.2)))
  clear HO2
  have HO2 := HOt
  clear HOt
  have HFt := Lib.hid ((hk.out _ (by have := HLp.out; simp; omega) (by have := HPg.out; omega)).trans ((heap_alloc_old w8 _ HLp.out).trans HFp.out))
  have HLt := Lib.hid (show w5.heap.size < w9.heap.size from by have := HLp.out; have := hby.out.size; simp at this; omega)
  clear HFp HLp
  have HFp := HFt
  have HLp := HLt
  clear HFt HLt
  clear HO0 hby hst hk HSm
  have HC := Lib.hid (readBar_all (some ⟨gy, 0, none⟩) 21 cy (L0 ++ [0]) E w9 (hOy.out.row8 (wf_snoc FA0.out.1 FA0.out.2.1)) (HS.out.below (HB0.out.trans (HB9.out.mono HB0.out.size))).four hOy.out.cap_le)
  rw [FA0.out.2.2.2.2.2.1, show errV E 102 = errP (E 102) from rfl] at HC
  generalize outW (L0 ++ [0]) 21 132 20 = qb at HC
  refine (HC.out).mono ?_
  rintro e w10 ⟨rfl, hB⟩
  have HB10 := Lib.hid (HB9.out.trans ((hB).mono HB9.out.size))
  have HOt := Lib.hid (HO2.out.below hB HO2.out.lt.2)
  clear HO2
  have HO2 := HOt
  clear HOt
  have HFt := Lib.hid (((hB).block _ HLp.out).trans HFp.out)
  have HLt := Lib.hid (Nat.lt_of_lt_of_le HLp.out (hB).size)
  clear HFp HLp
  have HFp := HFt
  have HLp := HLt
  clear HFt HLt
  have HRt := Lib.hid (HRb.out.below hB)
  clear HRb
  have HRb := HRt
  clear HRt
  clear hB
  clear HC hOy
  have HA := Lib.hid ((Below.refl w10.heap.size w10).alloc (Nat.le_refl _) (.cells qb.cells 25))
  have HB11 := Lib.hid (HB10.out.trans ((HA.out).mono HB10.out.size))
  have HOt := Lib.hid (HO2.out.below HA.out HO2.out.lt.2)
  clear HO2
  have HO2 := HOt
  clear HOt
  have HFt := Lib.hid (((HA.out).block _ HLp.out).trans HFp.out)
  have HLt := Lib.hid (Nat.lt_of_lt_of_le HLp.out (HA.out).size)
  clear HFp HLp
  have HFp := HFt
  have HLp := HLt
  clear HFt HLt
  have HRt := Lib.hid (HRb.out.below HA.out)
  clear HRb
  have HRb := HRt
  clear HRt
  have HGa := Lib.hid ((HB11.out.block _ (by have := HZ.out; omega)).trans HG0.out)
  clear HA
  go_wp2_with (first
    | (refine wpList_store_row rfl 25 (.tmp 18) (.tmp 65) rfl w10.heap.size qb.cells rfl rfl 25 Go.Proofs.YtpiiodnhiolfbaaDoor.b0.cells (heap_alloc_last _ _) sizeBar rfl (Brf.oneCell _) ?_; rw [World.setRow_alloc_new]; generalize World.alloc w10 _ = w11 at *)
    | (refine wpList_load_if (by rfl) 25 (.tmp 14) rfl w5.heap.size rfl 25 f0.cells (0, 0) _ HFp.out Tryd.underlying25 rfl sizeBar ?_)
    | (refine wpList_load_if (by rfl) 25 (.tmp 3) rfl w.heap.size rfl 25 f0.cells (0, 0) _ HGa.out Tryd.underlying25 rfl sizeBar ?_))
  clear HGa
  refine (sameBar_any f0 f0 w11).mono ?_
  rintro e w12 ⟨rfl, hB⟩
  have HB12 := Lib.hid (HB11.out.trans ((hB).mono HB11.out.size))
  have HOt := Lib.hid (HO2.out.below hB HO2.out.lt.2)
  clear HO2
  have HO2 := HOt
  clear HOt
  have HFt := Lib.hid (((hB).block _ HLp.out).trans HFp.out)
  have HLt := Lib.hid (Nat.lt_of_lt_of_le HLp.out (hB).size)
  clear HFp HLp
  have HFp := HFt
  have HLp := HLt
  clear HFt HLt
  have HRt := Lib.hid (HRb.out.below hB)
  clear HRb
  have HRb := HRt
  clear HRt
  clear hB
  rw [sameW_refl]
  go_wp2_with (fail)
  refine (is_err E 105 105 w12 (HS.out.below (HB0.out.trans (HB12.out.mono HB0.out.size))) (.inr (by decide))).mono ?_
  rintro e w13 ⟨rfl, hB⟩
  have HB13 := Lib.hid (HB12.out.trans ((hB).mono HB12.out.size))
  have HOt := Lib.hid (HO2.out.below hB HO2.out.lt.2)
  clear HO2
  have HO2 := HOt
  clear HOt
  have HFt := Lib.hid (((hB).block _ HLp.out).trans HFp.out)
  have HLt := Lib.hid (Nat.lt_of_lt_of_le HLp.out (hB).size)
  clear HFp HLp
  have HFp := HFt
  have HLp := HLt
  clear HFt HLt
  have HRt := Lib.hid (HRb.out.below hB)
  clear HRb
  have HRb := HRt
  clear HRt
  clear hB
  go_wp2_with (fail)
  refine (is_err E 102 102 w13 (HS.out.below (HB0.out.trans (HB13.out.mono HB0.out.size))) (.inr (by decide))).mono ?_
  rintro e w14 ⟨rfl, hB⟩
  have HB14 := Lib.hid (HB13.out.trans ((hB).mono HB13.out.size))
  have HOt := Lib.hid (HO2.out.below hB HO2.out.lt.2)
  clear HO2
  have HO2 := HOt
  clear HOt
  have HFt := Lib.hid (((hB).block _ HLp.out).trans HFp.out)
  have HLt := Lib.hid (Nat.lt_of_lt_of_le HLp.out (hB).size)
  clear HFp HLp
  have HFp := HFt
  have HLp := HLt
  clear HFt HLt
  have HRt := Lib.hid (HRb.out.below hB)
  clear HRb
  have HRb := HRt
  clear HRt
  clear hB
  go_wp2_with (fail)
  refine (kindC_any _ 20 _ L0 w14 HRb.out).mono ?_
  rintro e w' ⟨rfl, rfl⟩
  rw [FA0.out.2.2.2.2.2.2]
  clear HRb HFp HLp
  go_wp2_with (fail)
  have HC := Lib.hid (readPoll_all (some ⟨gx2, 0, none⟩) 16 cx2 L2 E w14 (HO2.out.row8 FA2.out.2.1) (HS.out.below (HB0.out.trans (HB14.out.mono HB0.out.size))).four HN2.out)
  rw [FA2.out.2.2.1, FA2.out.2.2.2.1, errV_zero] at HC
  refine (HC.out).mono ?_
  rintro e w15 ⟨rfl, hB⟩
  have HB15 := Lib.hid (HB14.out.trans ((hB).mono HB14.out.size))
  have HOt := Lib.hid (HO2.out.below hB HO2.out.lt.2)
  clear HO2
  have HO2 := HOt
  clear HOt
  clear hB
  clear HC
  have HA := Lib.hid ((Below.refl w15.heap.size w15).alloc (Nat.le_refl _) (.cells f2.cells 30))
  have HB16 := Lib.hid (HB15.out.trans ((HA.out).mono HB15.out.size))
  have HOt := Lib.hid (HO2.out.below HA.out HO2.out.lt.2)
  clear HO2
  have HO2 := HOt
  clear HOt
  have HFs := Lib.hid (heap_alloc_last w15 (.cells f2.cells 30))
  have HLs := Lib.hid (show w15.heap.size < (w15.alloc (.cells f2.cells 30)).heap.size by simp)
  clear HA
  go_wp2_with (first
    | (refine wpList_store_row rfl 30 (.tmp 26) (.tmp 136) rfl w15.heap.size f2.cells rfl rfl 30 Go.Proofs.YtpiiodnhiolfbaaDoor.p0.cells (heap_alloc_last _ _) sizePoll rfl (Plf.oneCell _) ?_; rw [World.setRow_alloc_new]; generalize World.alloc w15 _ = w16 at *))
  have HC := Lib.hid (readBar_all (some ⟨gx2, 0, none⟩) 16 cx2 L2 E w16 (HO2.out.row8 FA2.out.2.1) (HS.out.below (HB0.out.trans (HB16.out.mono HB0.out.size))).four HN2.out)
  rw [FA2.out.2.2.2.2.1, show errV E 105 = errP (E 105) from rfl] at HC
  generalize outW L2 16 132 20 = qd at HC
  refine (HC.out).mono ?_
  rintro e w17 ⟨rfl, hB⟩
  have HB17 := Lib.hid (HB16.out.trans ((hB).mono HB16.out.size))
  have HOt := Lib.hid (HO2.out.below hB HO2.out.lt.2)
  clear HO2
  have HO2 := HOt
  clear HOt
  have HFt := Lib.hid (((hB).block _ HLs.out).trans HFs.out)
  have HLt := Lib.hid (Nat.lt_of_lt_of_le HLs.out (hB).size)
  clear HFs HLs
  have HFs := HFt
  have HLs := HLt
  clear HFt HLt
  clear hB
  clear HC
  have HA := Lib.hid ((Below.refl w17.heap.size w17).alloc (Nat.le_refl _) (.cells qd.cells 25))
  have HB18 := Lib.hid (HB17.out.trans ((HA.out).mono HB17.out.size))
  have HOt := Lib.hid (HO2.out.below HA.out HO2.out.lt.2)
  clear HO2
  have HO2 := HOt
  clear HOt
  have HFt := Lib.hid (((HA.out).block _ HLs.out).trans HFs.out)
  have HLt := Lib.hid (Nat.lt_of_lt_of_le HLs.out (HA.out).size)
  clear HFs HLs
  have HFs := HFt
  have HLs := HLt
  clear HFt HLt
  have HGa := Lib.hid ((HB18.out.block _ (by have := HZ.out; omega)).trans HG2.out)
  clear HA
  go_wp2_with (first
    | (refine wpList_store_row rfl 25 (.tmp 28) (.tmp 141) rfl w17.heap.size qd.cells rfl rfl 25 Go.Proofs.YtpiiodnhiolfbaaDoor.b0.cells (heap_alloc_last _ _) sizeBar rfl (Brf.oneCell _) ?_; rw [World.setRow_alloc_new]; generalize World.alloc w17 _ = w18 at *)
    | (refine wpList_load_if (by rfl) 30 (.tmp 26) rfl w15.heap.size rfl 30 f2.cells (0, 0) _ HFs.out Tryd.underlying30 rfl sizePoll ?_)
    | (refine wpList_load_if (by rfl) 30 (.tmp 5) rfl (w.heap.size + 1 + 1) rfl 30 f2.cells (0, 0) _ HGa.out Tryd.underlying30 rfl sizePoll ?_))
  clear HGa
  refine (samePoll_any f2 f2 w18).mono ?_
  rintro e w19 ⟨rfl, hB⟩
  have HB19 := Lib.hid (HB18.out.trans ((hB).mono HB18.out.size))
  have HOt := Lib.hid (HO2.out.below hB HO2.out.lt.2)
  clear HO2
  have HO2 := HOt
  clear HOt
  have HFt := Lib.hid (((hB).block _ HLs.out).trans HFs.out)
  have HLt := Lib.hid (Nat.lt_of_lt_of_le HLs.out (hB).size)
  clear HFs HLs
  have HFs := HFt
  have HLs := HLt
  clear HFt HLt
  clear hB
  rw [sameP_refl]
  go_wp2_with (fail)
  refine (is_err E 105 105 w19 (HS.out.below (HB0.out.trans (HB19.out.mono HB0.out.size))) (.inr (by decide))).mono ?_
  rintro e w20 ⟨rfl, hB⟩
  have HB20 := Lib.hid (HB19.out.trans ((hB).mono HB19.out.size))
  have HOt := Lib.hid (HO2.out.below hB HO2.out.lt.2)
  clear HO2
  have HO2 := HOt
  clear HOt
  have HFt := Lib.hid (((hB).block _ HLs.out).trans HFs.out)
  have HLt := Lib.hid (Nat.lt_of_lt_of_le HLs.out (hB).size)
  clear HFs HLs
  have HFs := HFt
  have HLs := HLt
  clear HFt HLt
  clear hB
  go_wp2_with (fail)
  refine (kindC_any _ 16 _ L2 w20 (HO2.out.row8 FA2.out.2.1)).mono ?_
  rintro e w' ⟨rfl, rfl⟩
  rw [FA2.out.2.2.2.2.2]
  go_wp2
  go_ret
  exact ⟨rfl, HB0.out.trans (HB20.out.mono HB0.out.size)⟩

set_option maxRecDepth 100000 in
set_option maxHeartbeats 8000000 in
theorem walk110 (f0 : Brf) (f1 : Akf) (f2 : Plf) (w : World) (E : Nat → Addr) (hS : Sent w E S14) (w0 : IsBar f0) (w1 : IsAck f1) (w2 : IsPoll f2) (hok0 : okTS f0.tid f0.seq = true) (hok1 : okTS f1.tid f1.seq = true) (hok2 : okAID f2.aid = false) :
    Calls Tryd.prog 5 #[f0.val, f1.val, f2.val] w fun e w' => e = .returned (.bool true) ∧ Below w.heap.size w w' := by
  have HS := Lib.hid hS
  have FA0 := Lib.hid (bar_facts f0 w0 hok0 _ rfl)
  have FA1 := Lib.hid (ack_facts f1 w1 hok1 _ rfl)
  clear w0 w1 w2 hS
  have HB0 := Lib.hid (show Below w.heap.size w (((w.alloc (.cells f0.cells 25)).alloc (.cells f1.cells 28)).alloc (.cells f2.cells 30)) from (((Below.refl w.heap.size w).alloc (Nat.le_refl _) _).alloc (by simp) _).alloc (by simp; omega) _)
  have HG0 := Lib.hid (show (((w.alloc (.cells f0.cells 25)).alloc (.cells f1.cells 28)).alloc (.cells f2.cells 30)).heap[w.heap.size]? = some (.cells f0.cells 25 (0, 0)) from (heap_alloc_old _ _ (by simp; omega)).trans ((heap_alloc_old _ _ (by simp)).trans (heap_alloc_new w _)))
  have HG1 := Lib.hid (show (((w.alloc (.cells f0.cells 25)).alloc (.cells f1.cells 28)).alloc (.cells f2.cells 30)).heap[w.heap.size + 1]? = some (.cells f1.cells 28 (0, 0)) from (heap_alloc_old _ _ (by simp)).trans (by have := heap_alloc_new (w.alloc (.cells f0.cells 25)) (.cells f1.cells 28); rwa [show (w.alloc (.cells f0.cells 25)).heap.size = w.heap.size + 1 by simp] at this))
  have HG2 := Lib.hid (show (((w.alloc (.cells f0.cells 25)).alloc (.cells f1.cells 28)).alloc (.cells f2.cells 30)).heap[w.heap.size + 1 + 1]? = some (.cells f2.cells 30 (0, 0)) from by have := heap_alloc_new ((w.alloc (.cells f0.cells 25)).alloc (.cells f1.cells 28)) (.cells f2.cells 30); rwa [show ((w.alloc (.cells f0.cells 25)).alloc (.cells f1.cells 28)).heap.size = w.heap.size + 1 + 1 by simp] at this)
  have HZ := Lib.hid (show w.heap.size + 1 + 1 < (((w.alloc (.cells f0.cells 25)).alloc (.cells f1.cells 28)).alloc (.cells f2.cells 30)).heap.size by simp)
  go_enter Tryd.func5, Tryd.ntmps5
  go_wp2_with (fail)
  generalize World.alloc (World.alloc (World.alloc w _) _) _ = w0 at *
  refine (first_any _).mono ?_
  rintro e w1 ⟨rfl, hB⟩
  have HB1 := Lib.hid hB
  clear hB
  have HGa := Lib.hid ((HB1.out.block _ (by have := HZ.out; omega)).trans HG0.out)
  go_wp2_with (refine wpList_load_row rfl 25 (.tmp 3) rfl w.heap.size rfl 25 f0.cells (0, 0) _ HGa.out Tryd.underlying25 rfl sizeBar ?_)
  clear HGa
  refine (bar_yes f0 w1 hok0).mono ?_
  rintro e w2 ⟨gx0, cx0, rfl, hO, hB⟩
  have HB2 := Lib.hid (HB1.out.trans ((hB).mono HB1.out.size))
  clear hB
  generalize encW 132 f0.t f0.f f0.tid f0.seq = L0 at *
  have HO0 := Lib.hid hO
  have HN0 := Lib.hid (show cx0 ≥ 20 from hO.cap_le)
  clear hO
  have HX0 := Lib.hid (show w1.heap.size ≤ gx0 ∧ gx0 < w2.heap.size from HO0.out.lt)
  have HSm := Lib.hid (Nat.le_refl w2.heap.size)
  have HGa := Lib.hid ((HB2.out.block _ (by have := HZ.out; omega)).trans HG1.out)
  go_wp2_with (refine wpList_load_row rfl 28 (.tmp 4) rfl (w.heap.size + 1) rfl 28 f1.cells (0, 0) _ HGa.out Tryd.underlying28 rfl sizeAck ?_)
  clear HGa
  refine (ack_yes f1 w2 hok1).mono ?_
  rintro e w3 ⟨gx1, cx1, rfl, hO, hB⟩
  have HB3 := Lib.hid (HB2.out.trans ((hB).mono HB2.out.size))
  have HMt := Lib.hid (Nat.le_trans HSm.out (hB).size)
  clear HSm
  have HSm := HMt
  clear HMt
  have HOt := Lib.hid (HO0.out.below hB HO0.out.lt.2)
  clear HO0
  have HO0 := HOt
  clear HOt
  clear hB
  generalize encA f1 = L1 at *
  have HO1 := Lib.hid hO
  have HN1 := Lib.hid (show cx1 ≥ 28 from hO.cap_le)
  clear hO
  have HX1 := Lib.hid (show w2.heap.size ≤ gx1 ∧ gx1 < w3.heap.size from HO1.out.lt)
  have HGa := Lib.hid ((HB3.out.block _ (by have := HZ.out; omega)).trans HG2.out)
  go_wp2_with (refine wpList_load_row rfl 30 (.tmp 5) rfl (w.heap.size + 1 + 1) rfl 30 f2.cells (0, 0) _ HGa.out Tryd.underlying30 rfl sizePoll ?_)
  clear HGa
  have HMq := HSm
  refine (poll_no f2 E w3 hok2 (HS.out.below (HB0.out.trans (HB3.out.mono HB0.out.size))).four).mono ?_
  rintro e w4 ⟨rfl, hB⟩
  have HB4 := Lib.hid (HB3.out.trans ((hB).mono HB3.out.size))
  have HMt := Lib.hid (Nat.le_trans HSm.out (hB).size)
  clear HSm
  have HSm := HMt
  clear HMt
  have HOt := Lib.hid (HO0.out.below hB HO0.out.lt.2)
  clear HO0
  have HO0 := HOt
  clear HOt
  have HOt := Lib.hid (HO1.out.below hB HO1.out.lt.2)
  clear HO1
  have HO1 := HOt
  clear HOt
  clear hB
  go_wp2_with (fail)
  have HC := Lib.hid (readBar_all (some ⟨gx0, 0, none⟩) 20 cx0 L0 E w4 (HO0.out.row8 FA0.out.2.1) (HS.out.below (HB0.out.trans (HB4.out.mono HB0.out.size))).four HN0.out)
  rw [FA0.out.2.2.1, FA0.out.2.2.2.1, errV_zero] at HC
  refine (HC.out).mono ?_
  rintro e w5 ⟨rfl, hB⟩
  have HB5 := Lib.hid (HB4.out.trans ((hB).mono HB4.out.size))
  have HMt := Lib.hid (Nat.le_trans HSm.out (hB).size)
  clear HSm
  have HSm := HMt
  clear HMt
  have HOt := Lib.hid (HO0.out.below hB HO0.out.lt.2)
  clear HO0
  have HO0 := HOt
  clear HOt
  have HOt := Lib.hid (HO1.out.below hB HO1.out.lt.2)
  clear HO1
  have HO1 := HOt
  clear HOt
  clear hB
  clear HC
  have HMp := HSm
  have HA := Lib.hid ((Below.refl w5.heap.size w5).alloc (Nat.le_refl _) (.cells f0.cells 25))
  have HB6 := Lib.hid (HB5.out.trans ((HA.out).mono HB5.out.size))
  have HMt := Lib.hid (Nat.le_trans HSm.out (HA.out).size)
  clear HSm
  have HSm := HMt
  clear HMt
  have HOt := Lib.hid (HO0.out.below HA.out HO0.out.lt.2)
  clear HO0
  have HO0 := HOt
  clear HOt
  have HOt := Lib.hid (HO1.out.below HA.out HO1.out.lt.2)
  clear HO1
  have HO1 := HOt
  clear HOt
  have HFp := Lib.hid (heap_alloc_last w5 (.cells f0.cells 25))
  have HLp := Lib.hid (show w5.heap.size < (w5.alloc (.cells f0.cells 25)).heap.size by simp)
  clear HA
  go_wp2_with (first
    | (refine wpList_store_row rfl 25 (.tmp 14) (.tmp 53) rfl w5.heap.size f0.cells rfl rfl 25 Go.Proofs.YtpiiodnhiolfbaaDoor.b0.cells (heap_alloc_last _ _) sizeBar rfl (Brf.oneCell _) ?_; rw [World.setRow_alloc_new]; generalize World.alloc w5 _ = w6 at *))
  have HC := Lib.hid (readAck_all (some ⟨gx0, 0, none⟩) 20 cx0 L0 E w6 (HO0.out.row8 FA0.out.2.1) (HS.out.below (HB0.out.trans (HB6.out.mono HB0.out.size))).four HN0.out)
  rw [FA0.out.2.2.2.2.1, show errV E 105 = errP (E 105) from rfl] at HC
  generalize outA L0 20 = qa at HC
  refine (HC.out).mono ?_
  rintro e w7 ⟨rfl, hB⟩
  have HB7 := Lib.hid (HB6.out.trans ((hB).mono HB6.out.size))
  have HMt := Lib.hid (Nat.le_trans HSm.out (hB).size)
  clear HSm
  have HSm := HMt
  clear HMt
  have HOt := Lib.hid (HO0.out.below hB HO0.out.lt.2)
  clear HO0
  have HO0 := HOt
  clear HOt
  have HOt := Lib.hid (HO1.out.below hB HO1.out.lt.2)
  clear HO1
  have HO1 := HOt
  clear HOt
  have HFt := Lib.hid (((hB).block _ HLp.out).trans HFp.out)
  have HLt := Lib.hid (Nat.lt_of_lt_of_le HLp.out (hB).size)
  clear HFp HLp
  have HFp := HFt
  have HLp := HLt
  clear HFt HLt
  clear hB
  clear HC
  have HM1 := Lib.hid (show gx0 < gx1 from by have h1 := HX1.out; have h2 := HX0.out; have h3 := HMq.out; omega)
  have HPg := Lib.hid (show gx0 < w5.heap.size from Nat.lt_of_lt_of_le HX0.out.2 HMp.out)
  have HA := Lib.hid ((Below.refl w7.heap.size w7).alloc (Nat.le_refl _) (.cells qa.cells 28))
  have HB8 := Lib.hid (HB7.out.trans ((HA.out).mono HB7.out.size))
  have HMt := Lib.hid (Nat.le_trans HSm.out (HA.out).size)
  clear HSm
  have HSm := HMt
  clear HMt
  have HOt := Lib.hid (HO0.out.below HA.out HO0.out.lt.2)
  clear HO0
  have HO0 := HOt
  clear HOt
  have HOt := Lib.hid (HO1.out.below HA.out HO1.out.lt.2)
  clear HO1
  have HO1 := HOt
  clear HOt
  have HFt := Lib.hid (((HA.out).block _ HLp.out).trans HFp.out)
  have HLt := Lib.hid (Nat.lt_of_lt_of_le HLp.out (HA.out).size)
  clear HFp HLp
  have HFp := HFt
  have HLp := HLt
  clear HFt HLt
  clear HA
  go_wp2_with (first
    | (refine wpList_store_row rfl 28 (.tmp 16) (.tmp 58) rfl w7.heap.size qa.cells rfl rfl 28 Go.Proofs.YtpiiodnhiolfbaaDoor.a0.cells (heap_alloc_last _ _) sizeAck rfl (Akf.oneCell _) ?_; rw [World.setRow_alloc_new]; generalize World.alloc w7 _ = w8 at *)
    | (refine app_stand rfl (.tmp 61) (.tmp 62) rfl w1.heap.size gx0 20 cx0 L0 rfl (World.ownsRow.alloc HO0.out _) ⟨w8.heap.size, 0, none⟩ 1 1 [0] rfl rfl (World.news_of_block (cs := #[.int .u8 0]) (t := 5) (fr := (0, 0)) (heap_alloc_new w8 _)) (by omega) (by have := HO0.out.lt; simp; omega) ?_; intro gy cy w9 hOy hby hst hk))
  have HB9 := Lib.hid ((HB8.out.alloc HB8.out.size (.cells #[.int .u8 0] 5)).trans (hby.out.mono HB1.out.size))
  have HRb := Lib.hid (show RowB .u8 w9 (some ⟨gx0, 0, none⟩) 20 L0 from ⟨FA0.out.1, by unfold maxLen; omega, fun i hi => by have := FA0.out.2.1 i hi; simpa [IntKind.min, IntKind.max, IntKind.signed, IntKind.bits] using this, fun _ => ⟨gx0, 0, rfl, fun i hi => by rw [Nat.zero_add]; exact hst.out i hi⟩⟩)
  have HOt := Lib.hid (HO1.out.of_block ((hk.out gx1 (by have := HO1.out.lt; simp; omega) (by have := HM1.out; omega)).trans (heap_alloc_old w8 _ HO1.out.lt.2)))
  clear HO1
  have HO1 := HOt
  clear HOt
  have HFt := Lib.hid ((hk.out _ (by have := HLp.out; simp; omega) (by have := HPg.out; omega)).trans ((heap_alloc_old w8 _ HLp.out).trans HFp.out))
  have HLt := Lib.hid (show w5.heap.size < w9.heap.size from by have := HLp.out; have := hby.out.size; simp at this; omega)
  clear HFp HLp
  have HFp := HFt
  have HLp := HLt
  clear HFt HLt
  clear HO0 hby hst hk HSm
  have HC := Lib.hid (readBar_all (some ⟨gy, 0, none⟩) 21 cy (L0 ++ [0]) E w9 (hOy.out.row8 (wf_snoc FA0.out.1 FA0.out.2.1)) (HS.out.below (HB0.out.trans (HB9.out.mono HB0.out.size))).four hOy.out.cap_le)
  rw [FA0.out.2.2.2.2.2.1, show errV E 102 = errP (E 102) from rfl] at HC
  generalize outW (L0 ++ [0]) 21 132 20 = qb at HC
  refine (HC.out).mono ?_
  rintro e w10 ⟨rfl, hB⟩
  have HB10 := Lib.hid (HB9.out.trans ((hB).mono HB9.out.size))
  have HOt := Lib.hid (HO1.out.below hB HO1.out.lt.2)
  clear HO1
  have HO1 := HOt
  clear HOt
  have HFt := Lib.hid (((hB).block _ HLp.out).trans HFp.out)
  have HLt := Lib.hid (Nat.lt_of_lt_of_le HLp.out (hB).size)
  clear HFp HLp
  have HFp := HFt
  have HLp := HLt
  clear HFt HLt
  have HRt := Lib.hid (HRb.out.below hB)
  clear HRb
  have HRb := HRt
  clear HRt
  clear hB
  clear HC hOy
  have HA := Lib.hid ((Below.refl w10.heap.size w10).alloc (Nat.le_refl _) (.cells qb.cells 25))
  have HB11 := Lib.hid (HB10.out.trans ((HA.out).mono HB10.out.size))
  have HOt := Lib.hid (HO1.out.below HA.out HO1.out.lt.2)
  clear HO1
  have HO1 := HOt
  clear HOt
  have HFt := Lib.hid (((HA.out).block _ HLp.out).trans HFp.out)
  have HLt := Lib.hid (Nat.lt_of_lt_of_le HLp.out (HA.out).size)
  clear HFp HLp
  have HFp := HFt
  have HLp := HLt
  clear HFt HLt
  have HRt := Lib.hid (HRb.out.below HA.out)
  clear HRb
  have HRb := HRt
  clear HRt
  have HGa := Lib.hid ((HB11.out.block _ (by have := HZ.out; omega)).trans HG0.out)
  clear HA
  go_wp2_with (first
    | (refine wpList_store_row rfl 25 (.tmp 18) (.tmp 65) rfl w10.heap.size qb.cells rfl rfl 25 Go.Proofs.YtpiiodnhiolfbaaDoor.b0.cells (heap_alloc_last _ _) sizeBar rfl (Brf.oneCell _) ?_; rw [World.setRow_alloc_new]; generalize World.alloc w10 _ = w11 at *)
    | (refine wpList_load_if (by rfl) 25 (.tmp 14) rfl w5.heap.size rfl 25 f0.cells (0, 0) _ HFp.out Tryd.underlying25 rfl sizeBar ?_)
    | (refine wpList_load_if (by rfl) 25 (.tmp 3) rfl w.heap.size rfl 25 f0.cells (0, 0) _ HGa.out Tryd.underlying25 rfl sizeBar ?_))
  clear HGa
  refine (sameBar_any f0 f0 w11).mono ?_
  rintro e w12 ⟨rfl, hB⟩
  have HB12 := Lib.hid (HB11.out.trans ((hB).mono HB11.out.size))
  have HOt := Lib.hid (HO1.out.below hB HO1.out.lt.2)
  clear HO1
  have HO1 := HOt
  clear HOt
  have HFt := Lib.hid (((hB).block _ HLp.out).trans HFp.out)
  have HLt := Lib.hid (Nat.lt_of_lt_of_le HLp.out (hB).size)
  clear HFp HLp
  have HFp := HFt
  have HLp := HLt
  clear HFt HLt
  have HRt := Lib.hid (HRb.out.below hB)
  clear HRb
  have HRb := HRt
  clear HRt
  clear hB
  rw [sameW_refl]
  go_wp2_with (fail)
  refine (is_err E 105 105 w12 (HS.out.below (HB0.out.trans (HB12.out.mono HB0.out.size))) (.inr (by decide))).mono ?_
  rintro e w13 ⟨rfl, hB⟩
  have HB13 := Lib.hid (HB12.out.trans ((hB).mono HB12.out.size))
  have HOt := Lib.hid (HO1.out.below hB HO1.out.lt.2)
  clear HO1
  have HO1 := HOt
  clear HOt
  have HFt := Lib.hid (((hB).block _ HLp.out).trans HFp.out)
  have HLt := Lib.hid (Nat.lt_of_lt_of_le HLp.out (hB).size)
  clear HFp HLp
  have HFp := HFt
  have HLp := HLt
  clear HFt HLt
  have HRt := Lib.hid (HRb.out.below hB)
  clear HRb
  have HRb := HRt
  clear HRt
  clear hB
  go_wp2_with (fail)
  refine (is_err E 102 102 w13 (HS.out.below (HB0.out.trans (HB13.out.mono HB0.out.size))) (.inr (by decide))).mono ?_
  rintro e w14 ⟨rfl, hB⟩
  have HB14 := Lib.hid (HB13.out.trans ((hB).mono HB13.out.size))
  have HOt := Lib.hid (HO1.out.below hB HO1.out.lt.2)
  clear HO1
  have HO1 := HOt
  clear HOt
  have HFt := Lib.hid (((hB).block _ HLp.out).trans HFp.out)
  have HLt := Lib.hid (Nat.lt_of_lt_of_le HLp.out (hB).size)
  clear HFp HLp
  have HFp := HFt
  have HLp := HLt
  clear HFt HLt
  have HRt := Lib.hid (HRb.out.below hB)
  clear HRb
  have HRb := HRt
  clear HRt
  clear hB
  go_wp2_with (fail)
  refine (kindC_any _ 20 _ L0 w14 HRb.out).mono ?_
  rintro e w' ⟨rfl, rfl⟩
  rw [FA0.out.2.2.2.2.2.2]
  clear HRb HFp HLp
  go_wp2_with (fail)
  have HC := Lib.hid (readAck_all (some ⟨gx1, 0, none⟩) 28 cx1 L1 E w14 (HO1.out.row8 FA1.out.2.1) (HS.out.below (HB0.out.trans (HB14.out.mono HB0.out.size))).four HN1.out)
  rw [FA1.out.2.2.1, FA1.out.2.2.2.1, errV_zero] at HC
  refine (HC.out).mono ?_
  rintro e w15 ⟨rfl, hB⟩
  have HB15 := Lib.hid (HB14.out.trans ((hB).mono HB14.out.size))
  have HOt := Lib.hid (HO1.out.below hB HO1.out.lt.2)
  clear HO1
  have HO1 := HOt
  clear HOt
  clear hB
  clear HC
  have HA := Lib.hid ((Below.refl w15.heap.size w15).alloc (Nat.le_refl _) (.cells f1.cells 28))
  have HB16 := Lib.hid (HB15.out.trans ((HA.out).mono HB15.out.size))
  have HOt := Lib.hid (HO1.out.below HA.out HO1.out.lt.2)
  clear HO1
  have HO1 := HOt
  clear HOt
  have HFr := Lib.hid (heap_alloc_last w15 (.cells f1.cells 28))
  have HLr := Lib.hid (show w15.heap.size < (w15.alloc (.cells f1.cells 28)).heap.size by simp)
  clear HA
  go_wp2_with (first
    | (refine wpList_store_row rfl 28 (.tmp 20) (.tmp 95) rfl w15.heap.size f1.cells rfl rfl 28 Go.Proofs.YtpiiodnhiolfbaaDoor.a0.cells (heap_alloc_last _ _) sizeAck rfl (Akf.oneCell _) ?_; rw [World.setRow_alloc_new]; generalize World.alloc w15 _ = w16 at *))
  have HC := Lib.hid (readPoll_all (some ⟨gx1, 0, none⟩) 28 cx1 L1 E w16 (HO1.out.row8 FA1.out.2.1) (HS.out.below (HB0.out.trans (HB16.out.mono HB0.out.size))).four HN1.out)
  rw [FA1.out.2.2.2.2.1, show errV E 105 = errP (E 105) from rfl] at HC
  generalize outP L1 28 = qp at HC
  refine (HC.out).mono ?_
  rintro e w17 ⟨rfl, hB⟩
  have HB17 := Lib.hid (HB16.out.trans ((hB).mono HB16.out.size))
  have HOt := Lib.hid (HO1.out.below hB HO1.out.lt.2)
  clear HO1
  have HO1 := HOt
  clear HOt
  have HFt := Lib.hid (((hB).block _ HLr.out).trans HFr.out)
  have HLt := Lib.hid (Nat.lt_of_lt_of_le HLr.out (hB).size)
  clear HFr HLr
  have HFr := HFt
  have HLr := HLt
  clear HFt HLt
  clear hB
  clear HC
  have k27 : (27 : Int) ≤ (cx1 : Int) := by have := HN1.out; omega
  have HA := Lib.hid ((Below.refl w17.heap.size w17).alloc (Nat.le_refl _) (.cells qp.cells 30))
  have HB18 := Lib.hid (HB17.out.trans ((HA.out).mono HB17.out.size))
  have HOt := Lib.hid (HO1.out.below HA.out HO1.out.lt.2)
  clear HO1
  have HO1 := HOt
  clear HOt
  have HFt := Lib.hid (((HA.out).block _ HLr.out).trans HFr.out)
  have HLt := Lib.hid (Nat.lt_of_lt_of_le HLr.out (HA.out).size)
  clear HFr HLr
  have HFr := HFt
  have HLr := HLt
  clear HFt HLt
  clear HA
  go_wp2_with (first
    | (refine wpList_store_row rfl 30 (.tmp 22) (.tmp 100) rfl w17.heap.size qp.cells rfl rfl 30 Go.Proofs.YtpiiodnhiolfbaaDoor.p0.cells (heap_alloc_last _ _) sizePoll rfl (Plf.oneCell _) ?_; rw [World.setRow_alloc_new]; generalize World.alloc w17 _ = w18 at *))
  have HC := Lib.hid (readAck_all (some ⟨gx1, 0, none⟩) 27 cx1 (L1.take 27) E w18 ((HO1.out.row8 FA1.out.2.1).first 27 (by omega)) (HS.out.below (HB0.out.trans (HB18.out.mono HB0.out.size))).four (by have := HN1.out; omega))
  rw [FA1.out.2.2.2.2.2.1, show errV E 101 = errP (E 101) from rfl] at HC
  generalize outA (L1.take 27) 27 = qc at HC
  refine (HC.out).mono ?_
  rintro e w19 ⟨rfl, hB⟩
  have HB19 := Lib.hid (HB18.out.trans ((hB).mono HB18.out.size))
  have HOt := Lib.hid (HO1.out.below hB HO1.out.lt.2)
  clear HO1
  have HO1 := HOt
  clear HOt
  have HFt := Lib.hid (((hB).block _ HLr.out).trans HFr.out)
  have HLt := Lib.hid (Nat.lt_of_lt_of_le HLr.out (hB).size)
  clear HFr HLr
  have HFr := HFt
  have HLr := HLt
  clear HFt HLt
  clear hB
  clear HC k27
  have HA := Lib.hid ((Below.refl w19.heap.size w19).alloc (Nat.le_refl _) (.cells qc.cells 28))
  have HB20 := Lib.hid (HB19.out.trans ((HA.out).mono HB19.out.size))
  have HOt := Lib.hid (HO1.out.below HA.out HO1.out.lt.2)
  clear HO1
  have HO1 := HOt
  clear HOt
  have HFt := Lib.hid (((HA.out).block _ HLr.out).trans HFr.out)
  have HLt := Lib.hid (Nat.lt_of_lt_of_le HLr.out (HA.out).size)
  clear HFr HLr
  have HFr := HFt
  have HLr := HLt
  clear HFt HLt
  have HGa := Lib.hid ((HB20.out.block _ (by have := HZ.out; omega)).trans HG1.out)
  clear HA
  go_wp2_with (first
    | (refine wpList_store_row rfl 28 (.tmp 24) (.tmp 106) rfl w19.heap.size qc.cells rfl rfl 28 Go.Proofs.YtpiiodnhiolfbaaDoor.a0.cells (heap_alloc_last _ _) sizeAck rfl (Akf.oneCell _) ?_; rw [World.setRow_alloc_new]; generalize World.alloc w19 _ = w20 at *)
    | (refine wpList_load_if (by rfl) 28 (.tmp 20) rfl w15.heap.size rfl 28 f1.cells (0, 0) _ HFr.out Tryd.underlying28 rfl sizeAck ?_)
    | (refine wpList_load_if (by rfl) 28 (.tmp 4) rfl (w.heap.size + 1) rfl 28 f1.cells (0, 0) _ HGa.out Tryd.underlying28 rfl sizeAck ?_))
  clear HGa
  refine (sameAck_any f1 f1 w20).mono ?_
  rintro e w21 ⟨rfl, hB⟩
  have HB21 := Lib.hid (HB20.out.trans ((hB).mono HB20.out.size))
  have HOt := Lib.hid (HO1.out.below hB HO1.out.lt.2)
  clear HO1
  have HO1 := HOt
  clear HOt
  have HFt := Lib.hid (((hB).block _ HLr.out).trans HFr.out)
  have HLt := Lib.hid (Nat.lt_of_lt_of_le HLr.out (hB).size)
  clear HFr HLr
  have HFr := HFt
  have HLr := HLt
  clear HFt HLt
  clear hB
  rw [sameA_refl]
  go_wp2_with (fail)
  refine (is_err E 105 105 w21 (HS.out.below (HB0.out.trans (HB21.out.mono HB0.out.size))) (.inr (by decide))).mono ?_
  rintro e w22 ⟨rfl, hB⟩
  have HB22 := Lib.hid (HB21.out.trans ((hB).mono HB21.out.size))
  have HOt := Lib.hid (HO1.out.below hB HO1.out.lt.2)
  clear HO1
  have HO1 := HOt
  clear HOt
  have HFt := Lib.hid (((hB).block _ HLr.out).trans HFr.out)
  have HLt := Lib.hid (Nat.lt_of_lt_of_le HLr.out (hB).size)
  clear HFr HLr
  have HFr := HFt
  have HLr := HLt
  clear HFt HLt
  clear hB
  go_wp2_with (fail)
  refine (is_err E 101 101 w22 (HS.out.below (HB0.out.trans (HB22.out.mono HB0.out.size))) (.inr (by decide))).mono ?_
  rintro e w23 ⟨rfl, hB⟩
  have HB23 := Lib.hid (HB22.out.trans ((hB).mono HB22.out.size))
  have HOt := Lib.hid (HO1.out.below hB HO1.out.lt.2)
  clear HO1
  have HO1 := HOt
  clear HOt
  have HFt := Lib.hid (((hB).block _ HLr.out).trans HFr.out)
  have HLt := Lib.hid (Nat.lt_of_lt_of_le HLr.out (hB).size)
  clear HFr HLr
  have HFr := HFt
  have HLr := HLt
  clear HFt HLt
  clear hB
  go_wp2_with (fail)
  refine (kindC_any _ 28 _ L1 w23 (HO1.out.row8 FA1.out.2.1)).mono ?_
  rintro e w' ⟨rfl, rfl⟩
  rw [FA1.out.2.2.2.2.2.2]
  clear HFr HLr HO1
  go_wp2
  go_ret
  exact ⟨rfl, HB0.out.trans (HB23.out.mono HB0.out.size)⟩

set_option maxRecDepth 100000 in
set_option maxHeartbeats 8000000 in
theorem walk111 (f0 : Brf) (f1 : Akf) (f2 : Plf) (w : World) (E : Nat → Addr) (hS : Sent w E S14) (w0 : IsBar f0) (w1 : IsAck f1) (w2 : IsPoll f2) (hok0 : okTS f0.tid f0.seq = true) (hok1 : okTS f1.tid f1.seq = true) (hok2 : okAID f2.aid = true) :
    Calls Tryd.prog 5 #[f0.val, f1.val, f2.val] w fun e w' => e = .returned (.bool true) ∧ Below w.heap.size w w' := by
  have HS := Lib.hid hS
  have FA0 := Lib.hid (bar_facts f0 w0 hok0 _ rfl)
  have FA1 := Lib.hid (ack_facts f1 w1 hok1 _ rfl)
  have FA2 := Lib.hid (poll_facts f2 w2 hok2 _ rfl)
  clear w0 w1 w2 hS
  have HB0 := Lib.hid (show Below w.heap.size w (((w.alloc (.cells f0.cells 25)).alloc (.cells f1.cells 28)).alloc (.cells f2.cells 30)) from (((Below.refl w.heap.size w).alloc (Nat.le_refl _) _).alloc (by simp) _).alloc (by simp; omega) _)
  have HG0 := Lib.hid (show (((w.alloc (.cells f0.cells 25)).alloc (.cells f1.cells 28)).alloc (.cells f2.cells 30)).heap[w.heap.size]? = some (.cells f0.cells 25 (0, 0)) from (heap_alloc_old _ _ (by simp; omega)).trans ((heap_alloc_old _ _ (by simp)).trans (heap_alloc_new w _)))
  have HG1 := Lib.hid (show (((w.alloc (.cells f0.cells 25)).alloc (.cells f1.cells 28)).alloc (.cells f2.cells 30)).heap[w.heap.size + 1]? = some (.cells f1.cells 28 (0, 0)) from (heap_alloc_old _ _ (by simp)).trans (by have := heap_alloc_new (w.alloc (.cells f0.cells 25)) (.cells f1.cells 28); rwa [show (w.alloc (.cells f0.cells 25)).heap.size = w.heap.size + 1 by simp] at this))
  have HG2 := Lib.hid (show (((w.alloc (.cells f0.cells 25)).alloc (.cells f1.cells 28)).alloc (.cells f2.cells 30)).heap[w.heap.size + 1 + 1]? = some (.cells f2.cells 30 (0, 0)) from by have := heap_alloc_new ((w.alloc (.cells f0.cells 25)).alloc (.cells f1.cells 28)) (.cells f2.cells 30); rwa [show ((w.alloc (.cells f0.cells 25)).alloc (.cells f1.cells 28)).heap.size = w.heap.size + 1 + 1 by simp] at this)
  have HZ := Lib.hid (show w.heap.size + 1 + 1 < (((w.alloc (.cells f0.cells 25)).alloc (.cells f1.cells 28)).alloc (.cells f2.cells 30)).heap.size by simp)
  go_enter Tryd.func5, Tryd.ntmps5
  go_wp2_with (fail)
  generalize World.alloc (World.alloc (World.alloc w _) _) _ = w0 at *
  refine (first_any _).mono ?_
  rintro e w1 ⟨rfl, hB⟩
  have HB1 := Lib.hid hB
  clear hB
  have HGa := Lib.hid ((HB1.out.block _ (by have := HZ.out; omega)).trans HG0.out)
  go_wp2_with (refine wpList_load_row rfl 25 (.tmp 3) rfl w.heap.size rfl 25 f0.cells (0, 0) _ HGa.out Tryd.underlying25 rfl sizeBar ?_)
  clear HGa
  refine (bar_yes f0 w1 hok0).mono ?_
  rintro e w2 ⟨gx0, cx0, rfl, hO, hB⟩
  have HB2 := Lib.hid (HB1.out.trans ((hB).mono HB1.out.size))
  clear hB
  generalize encW 132 f0.t f0.f f0.tid f0.seq = L0 at *
  have HO0 := Lib.hid hO
  have HN0 := Lib.hid (show cx0 ≥ 20 from hO.cap_le)
  clear hO
  have HX0 := Lib.hid (show w1.heap.size ≤ gx0 ∧ gx0 < w2.heap.size from HO0.out.lt)
  have HSm := Lib.hid (Nat.le_refl w2.heap.size)
  have HGa := Lib.hid ((HB2.out.block _ (by have := HZ.out; omega)).trans HG1.out)
  go_wp2_with (refine wpList_load_row rfl 28 (.tmp 4) rfl (w.heap.size + 1) rfl 28 f1.cells (0, 0) _ HGa.out Tryd.underlying28 rfl sizeAck ?_)
  clear HGa
  refine (ack_yes f1 w2 hok1).mono ?_
  rintro e w3 ⟨gx1, cx1, rfl, hO, hB⟩
  have HB3 := Lib.hid (HB2.out.trans ((hB).mono HB2.out.size))
  have HMt := Lib.hid (Nat.le_trans HSm.out (hB).size)
  clear HSm
  have HSm := HMt
  clear HMt
  have HOt := Lib.hid (HO0.out.below hB HO0.out.lt.2)
  clear HO0
  have HO0 := HOt
  clear HOt
  clear hB
  generalize encA f1 = L1 at *
  have HO1 := Lib.hid hO
  have HN1 := Lib.hid (show cx1 ≥ 28 from hO.cap_le)
  clear hO
  have HX1 := Lib.hid (show w2.heap.size ≤ gx1 ∧ gx1 < w3.heap.size from HO1.out.lt)
  have HGa := Lib.hid ((HB3.out.block _ (by have := HZ.out; omega)).trans HG2.out)
  go_wp2_with (refine wpList_load_row rfl 30 (.tmp 5) rfl (w.heap.size + 1 + 1) rfl 30 f2.cells (0, 0) _ HGa.out Tryd.underlying30 rfl sizePoll ?_)
  clear HGa
  have HMq := HSm
  refine (poll_yes f2 w3 hok2).mono ?_
  rintro e w4 ⟨gx2, cx2, rfl, hO, hB⟩
  have HB4 := Lib.hid (HB3.out.trans ((hB).mono HB3.out.size))
  have HMt := Lib.hid (Nat.le_trans HSm.out (hB).size)
  clear HSm
  have HSm := HMt
  clear HMt
  have HOt := Lib.hid (HO0.out.below hB HO0.out.lt.2)
  clear HO0
  have HO0 := HOt
  clear HOt
  have HOt := Lib.hid (HO1.out.below hB HO1.out.lt.2)
  clear HO1
  have HO1 := HOt
  clear HOt
  clear hB
  generalize encP f2 = L2 at *
  have HO2 := Lib.hid hO
  have HN2 := Lib.hid (show cx2 ≥ 16 from hO.cap_le)
  clear hO
  have HX2 := Lib.hid (show w3.heap.size ≤ gx2 ∧ gx2 < w4.heap.size from HO2.out.lt)
  go_wp2_with (fail)
  have HC := Lib.hid (readBar_all (some ⟨gx0, 0, none⟩) 20 cx0 L0 E w4 (HO0.out.row8 FA0.out.2.1) (HS.out.below (HB0.out.trans (HB4.out.mono HB0.out.size))).four HN0.out)
  rw [FA0.out.2.2.1, FA0.out.2.2.2.1, errV_zero] at HC
  refine (HC.out).mono ?_
  rintro e w5 ⟨rfl, hB⟩
  have HB5 := Lib.hid (HB4.out.trans ((hB).mono HB4.out.size))
  have HMt := Lib.hid (Nat.le_trans HSm.out (hB).size)
  clear HSm
  have HSm := HMt
  clear HMt
  have HOt := Lib.hid (HO0.out.below hB HO0.out.lt.2)
  clear HO0
  have HO0 := HOt
  clear HOt
  have HOt := Lib.hid (HO1.out.below hB HO1.out.lt.2)
  clear HO1
  have HO1 := HOt
  clear HOt
  have HOt := Lib.hid (HO2.out.below hB HO2.out.lt.2)
  clear HO2
  have HO2 := HOt
  clear HOt
  clear hB
  clear HC
  have HMp := HSm
  have HA := Lib.hid ((Below.refl w5.heap.size w5).alloc (Nat.le_refl _) (.cells f0.cells 25))
  have HB6 := Lib.hid (HB5.out.trans ((HA.out).mono HB5.out.size))
  have HMt := Lib.hid (Nat.le_trans HSm.out (HA.out).size)
  clear HSm
  have HSm := HMt
  clear HMt
  have HOt := Lib.hid (HO0.out.below HA.out HO0.out.lt.2)
  clear HO0
  have HO0 := HOt
  clear HOt
  have HOt := Lib.hid (HO1.out.below HA.out HO1.out.lt.2)
  clear HO1
  have HO1 := HOt
  clear HOt
  have HOt := Lib.hid (HO2.out.below HA.out HO2.out.lt.2)
  clear HO2
  have HO2 := HOt
  clear HOt
  have HFp := Lib.hid (heap_alloc_last w5 (.cells f0.cells 25))
  have HLp := Lib.hid (show w5.heap.size < (w5.alloc (.cells f0.cells 25)).heap.size by simp)
  clear HA
  go_wp2_with (first
    | (refine wpList_store_row rfl 25 (.tmp 14) (.tmp 53) rfl w5.heap.size f0.cells rfl rfl 25 Go.Proofs.YtpiiodnhiolfbaaDoor.b0.cells (heap_alloc_last _ _) sizeBar rfl (Brf.oneCell _) ?_; rw [World.setRow_alloc_new]; generalize World.alloc w5 _ = w6 at *))
  have HC := Lib.hid (readAck_all (some ⟨gx0, 0, none⟩) 20 cx0 L0 E w6 (HO0.out.row8 FA0.out.2.1) (HS.out.below (HB0.out.trans (HB6.out.mono HB0.out.size))).four HN0.out)
  rw [FA0.out.2.2.2.2.1, show errV E 105 = errP (E 105) from rfl] at HC
  generalize outA L0 20 = qa at HC
  refine (HC.out).mono ?_
  rintro e w7 ⟨rfl, hB⟩
  have HB7 := Lib.hid (HB6.out.trans ((hB).mono HB6.out.size))
  have HMt := Lib.hid (Nat.le_trans HSm.out (hB).size)
  clear HSm
  have HSm := HMt
  clear HMt
  have HOt := Lib.hid (HO0.out.below hB HO0.out.lt.2)
  clear HO0
  have HO0 := HOt
  clear HOt
  have HOt := Lib.hid (HO1.out.below hB HO1.out.lt.2)
  clear HO1
  have HO1 := HOt
  clear HOt
  have HOt := Lib.hid (HO2.out.below hB HO2.out.lt.2)
  clear HO2
  have HO2 := HOt
  clear HOt
  have HFt := Lib.hid (((hB).block _ HLp.out).trans HFp.out)
  have HLt := Lib.hid (Nat.lt_of_lt_of_le HLp.out (hB).size)
  clear HFp HLp
  have HFp := HFt
  have HLp := HLt
  clear HFt HLt
  clear hB
  clear HC
  have HM1 := Lib.hid (show gx0 < gx1 from by have h1 := HX1.out; have h2 := HX0.out; have h3 := HMq.out; omega)
  have HM2 := Lib.hid (show gx0 < gx2 from by have h1 := HX2.out; have h2 := HX0.out; have h3 := HMq.out; omega)
  have HPg := Lib.hid (show gx0 < w5.heap.size from Nat.lt_of_lt_of_le HX0.out.2 HMp.out)
  have HA := Lib.hid ((Below.refl w7.heap.size w7).alloc (Nat.le_refl _) (.cells qa.cells 28))
  have HB8 := Lib.hid (HB7.out.trans ((HA.out).mono HB7.out.size))
  have HMt := Lib.hid (Nat.le_trans HSm.out (HA.out).size)
  clear HSm
  have HSm := HMt
  clear HMt
  have HOt := Lib.hid (HO0.out.below HA.out HO0.out.lt.2)
  clear HO0
  have HO0 := HOt
  clear HOt
  have HOt := Lib.hid (HO1.out.below HA.out HO1.out.lt.2)
  clear HO1
  have HO1 := HOt
  clear HOt
  have HOt := Lib.hid (HO2.out.below HA.out HO2.out.lt.2)
  clear HO2
  have HO2 := HOt
  clear HOt
  have HFt := Lib.hid (((HA.out).block _ HLp.out).trans HFp.out)
  have HLt := Lib.hid (Nat.lt_of_lt_of_le HLp.out (HA.out).size)
  clear HFp HLp
  have HFp := HFt
  have HLp := HLt
  clear HFt HLt
  clear HA
  go_wp2_with (first
    | (refine wpList_store_row rfl 28 (.tmp 16) (.tmp 58) rfl w7.heap.size qa.cells rfl rfl 28 Go.Proofs.YtpiiodnhiolfbaaDoor.a0.cells (heap_alloc_last _ _) sizeAck rfl (Akf.oneCell _) ?_; rw [World.setRow_alloc_new]; generalize World.alloc w7 _ = w8 at *)
    | (refine app_stand rfl (.tmp 61) (.tmp 62) rfl w1.heap.size gx0 20 cx0 L0 rfl (World.ownsRow.alloc HO0.out _) ⟨w8.heap.size, 0, none⟩ 1 1 [0] rfl rfl (World.news_of_block (cs := #[.int .u8 0]) (t := 5) (fr := (0, 0)) (heap_alloc_new w8 _)) (by omega) (by have := HO0.out.lt; simp; omega) ?_; intro gy cy w9 hOy hby hst hk))
  have HB9 := Lib.hid ((HB8.out.alloc HB8.out.size (.cells #[.int .u8 0] 5)).trans (hby.out.mono HB1.out.size))
  have HRb := Lib.hid (show RowB .u8 w9 (some ⟨gx0, 0, none⟩) 20 L0 from ⟨FA0.out.1, by unfold maxLen; omega, fun i hi => by have := FA0.out.2.1 i hi; simpa [IntKind.min, IntKind.max, IntKind.signed, IntKind.bits] using this, fun _ => ⟨gx0, 0, rfl, fun i hi => by rw [Nat.zero_add]; exact hst.out i hi⟩⟩)
  have HOt := Lib.hid (HO1.out.of_block ((hk.out gx1 (by have := HO1.out.lt; simp; omega) (by have := HM1.out; omega)).trans (heap_alloc_old w8 _ HO1.out.lt.2)))
  clear HO1
  have HO1 := HOt
  clear HOt
  have HOt := Lib.hid (HO2.out.of_block ((hk.out gx2 (by have := HO2.out.lt; simp; omega) (by have := HM2.out; omega)).trans (heap_alloc_old w8 _ HO2.out.lt.2)))
  clear HO2
  have HO2 := HOt
  clear HOt
  have HFt := Lib.hid ((hk.out _ (by have := HLp.out; simp; omega) (by have := HPg.out; omega)).trans ((heap_alloc_old w8 _ HLp.out).trans HFp.out))
  have HLt := Lib.hid (show w5.heap.size < w9.heap.size from by have := HLp.out; have := hby.out.size; simp at this; omega)
  clear HFp HLp
  have HFp := HFt
  have HLp := HLt
  clear HFt HLt
  clear HO0 hby hst hk HSm
  have HC := Lib.hid (readBar_all (some ⟨gy, 0, none⟩) 21 cy (L0 ++ [0]) E w9 (hOy.out.row8 (wf_snoc FA0.out.1 FA0.out.2.1)) (HS.out.below (HB0.out.trans (HB9.out.mono HB0.out.size))).four hOy.out.cap_le)
  rw [FA0.out.2.2.2.2.2.1, show errV E 102 = errP (E 102) from rfl] at HC
  generalize outW (L0 ++ [0]) 21 132 20 = qb at HC
  refine (HC.out).mono ?_
  rintro e w10 ⟨rfl, hB⟩
  have HB10 := Lib.hid (HB9.out.trans ((hB).mono HB9.out.size))
  have HOt := Lib.hid (HO1.out.below hB HO1.out.lt.2)
  clear HO1
  have HO1 := HOt
  clear HOt
  have HOt := Lib.hid (HO2.out.below hB HO2.out.lt.2)
  clear HO2
  have HO2 := HOt
  clear HOt
  have HFt := Lib.hid (((hB).block _ HLp.out).trans HFp.out)
  have HLt := Lib.hid (Nat.lt_of_lt_of_le HLp.out (hB).size)
  clear HFp HLp
  have HFp := HFt
  have HLp := HLt
  clear HFt HLt
  have HRt := Lib.hid (HRb.out.below hB)
  clear HRb
  have HRb := HRt
  clear HRt
  clear hB
  clear HC hOy
  have HA := Lib.hid ((Below.refl w10.heap.size w10).alloc (Nat.le_refl _) (.cells qb.cells 25))
  have HB11 := Lib.hid (HB10.out.trans ((HA.out).mono HB10.out.size))
  have HOt := Lib.hid (HO1.out.below HA.out HO1.out.lt.2)
  clear HO1
  have HO1 := HOt
  clear HOt
  have HOt := Lib.hid (HO2.out.below HA.out HO2.out.lt.2)
  clear HO2
  have HO2 := HOt
  clear HOt
  have HFt := Lib.hid (((HA.out).block _ HLp.out).trans HFp.out)
  have HLt := Lib.hid (Nat.lt_of_lt_of_le HLp.out (HA.out).size)
  clear HFp HLp
  have HFp := HFt
  have HLp := HLt
  clear HFt HLt
  have HRt := Lib.hid (HRb.out.below HA.out)
  clear HRb
  have HRb := HRt
  clear HRt
  have HGa := Lib.hid ((HB11.out.block _ (by have := HZ.out; omega)).trans HG0.out)
  clear HA
  go_wp2_with (first
    | (refine wpList_store_row rfl 25 (.tmp 18) (.tmp 65) rfl w10.heap.size qb.cells rfl rfl 25 Go.Proofs.YtpiiodnhiolfbaaDoor.b0.cells (heap_alloc_last _ _) sizeBar rfl (Brf.oneCell _) ?_; rw [World.setRow_alloc_new]; generalize World.alloc w10 _ = w11 at *)
    | (refine wpList_load_if (by rfl) 25 (.tmp 14) rfl w5.heap.size rfl 25 f0.cells (0, 0) _ HFp.out Tryd.underlying25 rfl sizeBar ?_)
    | (refine wpList_load_if (by rfl) 25 (.tmp 3) rfl w.heap.size rfl 25 f0.cells (0, 0) _ HGa.out Tryd.underlying25 rfl sizeBar ?_))
  clear HGa
  refine (sameBar_any f0 f0 w11).mono ?_
  rintro e w12 ⟨rfl, hB⟩
  have HB12 := Lib.hid (HB11.out.trans ((hB).mono HB11.out.size))
  have HOt := Lib.hid (HO1.out.below hB HO1.out.lt.2)
  clear HO1
  have HO1 := HOt
  clear HOt
  have HOt := Lib.hid (HO2.out.below hB HO2.out.lt.2)
  clear HO2
  have HO2 := HOt
  clear HOt
  have HFt := Lib.hid (((hB).block _ HLp.out).trans HFp.out)
  have HLt := Lib.hid (Nat.lt_of_lt_of_le HLp.out (hB).size)
  clear HFp HLp
  have HFp := HFt
  have HLp := HLt
  clear HFt HLt
  have HRt := Lib.hid (HRb.out.below hB)
  clear HRb
  have HRb := HRt
  clear HRt
  clear hB
  rw [sameW_refl]
  go_wp2_with (fail)
  refine (is_err E 105 105 w12 (HS.out.below (HB0.out.trans (HB12.out.mono HB0.out.size))) (.inr (by decide))).mono ?_
  rintro e w13 ⟨rfl, hB⟩
  have HB13 := Lib.hid (HB12.out.trans ((hB).mono HB12.out.size))
  have HOt := Lib.hid (HO1.out.below hB HO1.out.lt.2)
  clear HO1
  have HO1 := HOt
  clear HOt
  have HOt := Lib.hid (HO2.out.below hB HO2.out.lt.2)
  clear HO2
  have HO2 := HOt
  clear HOt
  have HFt := Lib.hid (((hB).block _ HLp.out).trans HFp.out)
  have HLt := Lib.hid (Nat.lt_of_lt_of_le HLp.out (hB).size)
  clear HFp HLp
  have HFp := HFt
  have HLp := HLt
  clear HFt HLt
  have HRt := Lib.hid (HRb.out.below hB)
  clear HRb
  have HRb := HRt
  clear HRt
  clear hB
  go_wp2_with (fail)
  refine (is_err E 102 102 w13 (HS.out.below (HB0.out.trans (HB13.out.mono HB0.out.size))) (.inr (by decide))).mono ?_
  rintro e w14 ⟨rfl, hB⟩
  have HB14 := Lib.hid (HB13.out.trans ((hB).mono HB13.out.size))
  have HOt := Lib.hid (HO1.out.below hB HO1.out.lt.2)
  clear HO1
  have HO1 := HOt
  clear HOt
  have HOt := Lib.hid (HO2.out.below hB HO2.out.lt.2)
  clear HO2
  have HO2 := HOt
  clear HOt
  have HFt := Lib.hid (((hB).block _ HLp.out).trans HFp.out)
  have HLt := Lib.hid (Nat.lt_of_lt_of_le HLp.out (hB).size)
  clear HFp HLp
  have HFp := HFt
  have HLp := HLt
  clear HFt HLt
  have HRt := Lib.hid (HRb.out.below hB)
  clear HRb
  have HRb := HRt
  clear HRt
  clear hB
  go_wp2_with (fail)
  refine (kindC_any _ 20 _ L0 w14 HRb.out).mono ?_
  rintro e w' ⟨rfl, rfl⟩
  rw [FA0.out.2.2.2.2.2.2]
  clear HRb HFp HLp
  go_wp2_with (fail)
  have HC := Lib.hid (readAck_all (some ⟨gx1, 0, none⟩) 28 cx1 L1 E w14 (HO1.out.row8 FA1.out.2.1) (HS.out.below (HB0.out.trans (HB14.out.mono HB0.out.size))).four HN1.out)
  rw [FA1.out.2.2.1, FA1.out.2.2.2.1, errV_zero] at HC
  refine (HC.out).mono ?_
  rintro e w15 ⟨rfl, hB⟩
  have HB15 := Lib.hid (HB14.out.trans ((hB).mono HB14.out.size))
  have HOt := Lib.hid (HO1.out.below hB HO1.out.lt.2)
  clear HO1
  have HO1 := HOt
  clear HOt
  have HOt := Lib.hid (HO2.out.below hB HO2.out.lt.2)
  clear HO2
  have HO2 := HOt
  clear HOt
  clear hB
  clear HC
  have HA := Lib.hid ((Below.refl w15.heap.size w15).alloc (Nat.le_refl _) (.cells f1.cells 28))
  have HB16 := Lib.hid (HB15.out.trans ((HA.out).mono HB15.out.size))
  have HOt := Lib.hid (HO1.out.below HA.out HO1.out.lt.2)
  clear HO1
  have HO1 := HOt
  clear HOt
  have HOt := Lib.hid (HO2.out.below HA.out HO2.out.lt.2)
  clear HO2
  have HO2 := HOt
  clear HOt
  have HFr := Lib.hid (heap_alloc_last w15 (.cells f1.cells 28))
  have HLr := Lib.hid (show w15.heap.size < (w15.alloc (.cells f1.cells 28)).heap.size by simp)
  clear HA
  go_wp2_with (first
    | (refine wpList_store_row rfl 28 (.tmp 20) (.tmp 95) rfl w15.heap.size f1.cells rfl rfl 28 Go.Proofs.YtpiiodnhiolfbaaDoor.a0.cells (heap_alloc_last _ _) sizeAck rfl (Akf.oneCell _) ?_; rw [World.setRow_alloc_new]; generalize World.alloc w15 _ = w16 at *))
  have HC := Lib.hid (readPoll_all (some ⟨gx1, 0, none⟩) 28 cx1 L1 E w16 (HO1.out.row8 FA1.out.2.1) (HS.out.below (HB0.out.trans (HB16.out.mono HB0.out.size))).four HN1.out)
  rw [FA1.out.2.2.2.2.1, show errV E 105 = errP (E 105) from rfl] at HC
  generalize outP L1 28 = qp at HC
  refine (HC.out).mono ?_
  rintro e w17 ⟨rfl, hB⟩
  have HB17 := Lib.hid (HB16.out.trans ((hB).mono HB16.out.size))
  have HOt := Lib.hid (HO1.out.below hB HO1.out.lt.2)
  clear HO1
  have HO1 := HOt
  clear HOt
  have HOt := Lib.hid (HO2.out.below hB HO2.out.lt.2)
  clear HO2
  have HO2 := HOt
  clear HOt
  have HFt := Lib.hid (((hB).block _ HLr.out).trans HFr.out)
  have HLt := Lib.hid (Nat.lt_of_lt_of_le HLr.out (hB).size)
  clear HFr HLr
  have HFr := HFt
  have HLr := HLt
  clear HFt HLt
  clear hB
  clear HC
  have k27 : (27 : Int) ≤ (cx1 : Int) := by have := HN1.out; omega
  have HA := Lib.hid ((Below.refl w17.heap.size w17).alloc (Nat.le_refl _) (.cells qp.cells 30))
  have HB18 := Lib.hid (HB17.out.trans ((HA.out).mono HB17.out.size))
  have HOt := Lib.hid (HO1.out.below HA.out HO1.out.lt.2)
  clear HO1
  have HO1 := HOt
  clear HOt
  have HOt := Lib.hid (HO2.out.below HA.out HO2.out.lt.2)
  clear HO2
  have HO2 := HOt
  clear HOt
  have HFt := Lib.hid (((HA.out).block _ HLr.out).trans HFr.out)
  have HLt := Lib.hid (Nat.lt_of_lt_of_le HLr.out (HA.out).size)
  clear HFr HLr
  have HFr := HFt
  have HLr := HLt
  clear HFt HLt
  clear HA
  go_wp2_with (first
    | (refine wpList_store_row rfl 30 (.tmp 22) (.tmp 100) rfl w17.heap.size qp.cells rfl rfl 30 Go.Proofs.YtpiiodnhiolfbaaDoor.p0.cells (heap_alloc_last _ _) sizePoll rfl (Plf.oneCell _) ?_; rw [World.setRow_alloc_new]; generalize World.alloc w17 _ = w18 at *))
  have HC := Lib.hid (readAck_all (some ⟨gx1, 0, none⟩) 27 cx1 (L1.take 27) E w18 ((HO1.out.row8 FA1.out.2.1).first 27 (by omega)) (HS.out.below (HB0.out.trans (HB18.out.mono HB0.out.size))).four (by have := HN1.out; omega))
  rw [FA1.out.2.2.2.2.2.1, show errV E 101 = errP (E 101) from rfl] at HC
  generalize outA (L1.take 27) 27 = qc at HC
  refine (HC.out).mono ?_
  rintro e w19 ⟨rfl, hB⟩
  have HB19 := Lib.hid (HB18.out.trans ((hB).mono HB18.out.size))
  have HOt := Lib.hid (HO1.out.below hB HO1.out.lt.2)
  clear HO1
  have HO1 := HOt
  clear HOt
  have HOt := Lib.hid (HO2.out.below hB HO2.out.lt.2)
  clear HO2
  have HO2 := HOt
  clear HOt
  have HFt := Lib.hid (((hB).block _ HLr.out).trans HFr.out)
  have HLt := Lib.hid (Nat.lt_of_lt_of_le HLr.out (hB).size)
  clear HFr HLr
  have HFr := HFt
  have HLr := HLt
  clear HFt HLt
  clear hB
  clear HC k27
  have HA := Lib.hid ((Below.refl w19.heap.size w19).alloc (Nat.le_refl _) (.cells qc.cells 28))
  have HB20 := Lib.hid (HB19.out.trans ((HA.out).mono HB19.out.size))
  have HOt := Lib.hid (HO1.out.below HA.out HO1.out.lt.2)
  clear HO1
  have HO1 := HOt
  clear HOt
  have HOt := Lib.hid (HO2.out.below HA.out HO2.out.lt.2)
  clear HO2
  have HO2 := HOt
  clear HOt
  have HFt := Lib.hid (((HA.out).block _ HLr.out).trans HFr.out)
  have HLt := Lib.hid (Nat.lt_of_lt_of_le HLr.out (HA.out).size)
  clear HFr HLr
  have HFr := HFt
  have HLr := HLt
  clear HFt HLt
  have HGa := Lib.hid ((HB20.out.block _ (by have := HZ.out; omega)).trans HG1.out)
  clear HA
  go_wp2_with (first
    | (refine wpList_store_row rfl 28 (.tmp 24) (.tmp 106) rfl w19.heap.size qc.cells rfl rfl 28 Go.Proofs.YtpiiodnhiolfbaaDoor.a0.cells (heap_alloc_last _ _) sizeAck rfl (Akf.oneCell _) ?_; rw [World.setRow_alloc_new]; generalize World.alloc w19 _ = w20 at *)
    | (refine wpList_load_if (by rfl) 28 (.tmp 20) rfl w15.heap.size rfl 28 f1.cells (0, 0) _ HFr.out Tryd.underlying28 rfl sizeAck ?_)
    | (refine wpList_load_if (by rfl) 28 (.tmp 4) rfl (w.heap.size + 1) rfl 28 f1.cells (0, 0) _ HGa.out Tryd.underlying28 rfl sizeAck ?_))
  clear HGa
  refine (sameAck_any f1 f1 w20).mono ?_
  rintro e w21 ⟨rfl, hB⟩
  have HB21 := Lib.hid (HB20.out.trans ((hB).mono HB20.out.size))
  have HOt := Lib.hid (HO1.out.below hB HO1.out.lt.2)
  clear HO1
  have HO1 := HOt
  clear HOt
  have HOt := Lib.hid (HO2.out.below hB HO2.out.lt.2)
  clear HO2
  have HO2 := HOt
  clear HOt
  have HFt := Lib.hid (((hB).block _ HLr.out).trans HFr.out)
  have HLt := Lib.hid (Nat.lt_of_lt_of_le HLr.out (hB).size)
  clear HFr HLr
  have HFr := HFt
  have HLr := HLt
  clear HFt HLt
  clear hB
  rw [sameA_refl]
  go_wp2_with (fail)
  refine (is_err E 105 105 w21 (HS.out.below (HB0.out.trans (HB21.out.mono HB0.out.size))) (.inr (by decide))).mono ?_
  rintro e w22 ⟨rfl, hB⟩
  have HB22 := Lib.hid (HB21.out.trans ((hB).mono HB21.out.size))
  have HOt := Lib.hid (HO1.out.below hB HO1.out.lt.2)
  clear HO1
  have HO1 := HOt
  clear HOt
  have HOt := Lib.hid (HO2.out.below hB HO2.out.lt.2)
  clear HO2
  have HO2 := HOt
  clear HOt
  have HFt := Lib.hid (((hB).block _ HLr.out).trans HFr.out)
  have HLt := Lib.hid (Nat.lt_of_lt_of_le HLr.out (hB).size)
  clear HFr HLr
  have HFr := HFt
  have HLr := HLt
  clear HFt HLt
  clear hB
  go_wp2_with (fail)
  refine (is_err E 101 101 w22 (HS.out.below (HB0.out.trans (HB22.out.mono HB0.out.size))) (.inr (by decide))).mono ?_
  rintro e w23 ⟨rfl, hB⟩
  have HB23 := Lib.hid (HB22.out.trans ((hB).mono HB22.out.size))
  have HOt := Lib.hid (HO1.out.below hB HO1.out.lt.2)
  clear HO1
  have HO1 := HOt
  clear HOt
  have HOt := Lib.hid (HO2.out.below hB HO2.out.lt.2)
  clear HO2
  have HO2 := HOt
  clear HOt
  have HFt := Lib.hid (((hB).block _ HLr.out).trans HFr.out)
  have HLt := Lib.hid (Nat.lt_of_lt_of_le HLr.out (hB).size)
  clear HFr HLr
  have HFr := HFt
  have HLr := HLt
  clear HFt HLt
  clear hB
  go_wp2_with (fail)
  refine (kindC_any _ 28 _ L1 w23 (HO1.out.row8 FA1.out.2.1)).mono ?_
  rintro e w' ⟨rfl, rfl⟩
  rw [FA1.out.2.2.2.2.2.2]
  clear HFr HLr HO1
  go_wp2_with (fail)
  have HC := Lib.hid (readPoll_all (some ⟨gx2, 0, none⟩) 16 cx2 L2 E w23 (HO2.out.row8 FA2.out.2.1) (HS.out.below (HB0.out.trans (HB23.out.mono HB0.out.size))).four HN2.out)
  rw [FA2.out.2.2.1, FA2.out.2.2.2.1, errV_zero] at HC
  refine (HC.out).mono ?_
  rintro e w24 ⟨rfl, hB⟩
  have HB24 := Lib.hid (HB23.out.trans ((hB).mono HB23.out.size))
  have HOt := Lib.hid (HO2.out.below hB HO2.out.lt.2)
  clear HO2
  have HO2 := HOt
  clear HOt
  clear hB
  clear HC
  have HA := Lib.hid ((Below.refl w24.heap.size w24).alloc (Nat.le_refl _) (.cells f2.cells 30))
  have HB25 := Lib.hid (HB24.out.trans ((HA.out).mono HB24.out.size))
  have HOt := Lib.hid (HO2.out.below HA.out HO2.out.lt.2)
  clear HO2
  have HO2 := HOt
  clear HOt
  have HFs := Lib.hid (heap_alloc_last w24 (.cells f2.cells 30))
  have HLs := Lib.hid (show w24.heap.size < (w24.alloc (.cells f2.cells 30)).heap.size by simp)
  clear HA
  go_wp2_with (first
    | (refine wpList_store_row rfl 30 (.tmp 26) (.tmp 136) rfl w24.heap.size f2.cells rfl rfl 30 Go.Proofs.YtpiiodnhiolfbaaDoor.p0.cells (heap_alloc_last _ _) sizePoll rfl (Plf.oneCell _) ?_; rw [World.setRow_alloc_new]; generalize World.alloc w24 _ = w25 at *))
  have HC := Lib.hid (readBar_all (some ⟨gx2, 0, none⟩) 16 cx2 L2 E w25 (HO2.out.row8 FA2.out.2.1) (HS.out.below (HB0.out.trans (HB25.out.mono HB0.out.size))).four HN2.out)
  rw [FA2.out.2.2.2.2.1, show errV E 105 = errP (E 105) from rfl] at HC
  generalize outW L2 16 132 20 = qd at HC
  refine (HC.out).mono ?_
  rintro e w26 ⟨rfl, hB⟩
  have HB26 := Lib.hid (HB25.out.trans ((hB).mono HB25.out.size))
  have HOt := Lib.hid (HO2.out.below hB HO2.out.lt.2)
  clear HO2
  have HO2 := HOt
  clear HOt
  have HFt := Lib.hid (((hB).block _ HLs.out).trans HFs.out)
  have HLt := Lib.hid (Nat.lt_of_lt_of_le HLs.out (hB).size)
  clear HFs HLs
  have HFs := HFt
  have HLs := HLt
  clear HFt HLt
  clear hB
  clear HC
  have HA := Lib.hid ((Below.refl w26.heap.size w26).alloc (Nat.le_refl _) (.cells qd.cells 25))
  have HB27 := Lib.hid (HB26.out.trans ((HA.out).mono HB26.out.size))
  have HOt := Lib.hid (HO2.out.below HA.out HO2.out.lt.2)
  clear HO2
  have HO2 := HOt
  clear HOt
  have HFt := Lib.hid (((HA.out).block _ HLs.out).trans HFs.out)
  have HLt := Lib.hid (Nat.lt_of_lt_of_le HLs.out (HA.out).size)
  clear HFs HLs
  have HFs := HFt
  have HLs := HLt
  clear HFt HLt
  have HGa := Lib.hid ((HB27.out.block _ (by have := HZ.out; omega)).trans HG2.out)
  clear HA
  go_wp2_with (first
    | (refine wpList_store_row rfl 25 (.tmp 28) (.tmp 141) rfl w26.heap.size qd.cells rfl rfl 25 Go.Proofs.YtpiiodnhiolfbaaDoor.b0.cells (heap_alloc_last _ _) sizeBar rfl (Brf.oneCell _) ?_; rw [World.setRow_alloc_new]; generalize World.alloc w26 _ = w27 at *)
    | (refine wpList_load_if (by rfl) 30 (.tmp 26) rfl w24.heap.size rfl 30 f2.cells (0, 0) _ HFs.out Tryd.underlying30 rfl sizePoll ?_)
    | (refine wpList_load_if (by rfl) 30 (.tmp 5) rfl (w.heap.size + 1 + 1) rfl 30 f2.cells (0, 0) _ HGa.out Tryd.underlying30 rfl sizePoll ?_))
  clear HGa
  refine (samePoll_any f2 f2 w27).mono ?_
  rintro e w28 ⟨rfl, hB⟩
  have HB28 := Lib.hid (HB27.out.trans ((hB).mono HB27.out.size))
  have HOt := Lib.hid (HO2.out.below hB HO2.out.lt.2)
  clear HO2
  have HO2 := HOt
  clear HOt
  have HFt := Lib.hid (((hB).block _ HLs.out).trans HFs.out)
  have HLt := Lib.hid (Nat.lt_of_lt_of_le HLs.out (hB).size)
  clear HFs HLs
  have HFs := HFt
  have HLs := HLt
  clear HFt HLt
  clear hB
  rw [sameP_refl]
  go_wp2_with (fail)
  refine (is_err E 105 105 w28 (HS.out.below (HB0.out.trans (HB28.out.mono HB0.out.size))) (.inr (by decide))).mono ?_
  rintro e w29 ⟨rfl, hB⟩
  have HB29 := Lib.hid (HB28.out.trans ((hB).mono HB28.out.size))
  have HOt := Lib.hid (HO2.out.below hB HO2.out.lt.2)
  clear HO2
  have HO2 := HOt
  clear HOt
  have HFt := Lib.hid (((hB).block _ HLs.out).trans HFs.out)
  have HLt := Lib.hid (Nat.lt_of_lt_of_le HLs.out (hB).size)
  clear HFs HLs
  have HFs := HFt
  have HLs := HLt
  clear HFt HLt
  clear hB
  go_wp2_with (fail)
  refine (kindC_any _ 16 _ L2 w29 (HO2.out.row8 FA2.out.2.1)).mono ?_
  rintro e w' ⟨rfl, rfl⟩
  rw [FA2.out.2.2.2.2.2]
  go_wp2
  go_ret
  exact ⟨rfl, HB0.out.trans (HB29.out.mono HB0.out.size)⟩

theorem walk (f0 : Brf) (f1 : Akf) (f2 : Plf) (w : World) (E : Nat → Addr) (hS : Sent w E [101, 102, 103, 104, 105, 106, 107, 108, 109, 110, 111, 112, 113, 114]) (w0 : IsBar f0) (w1 : IsAck f1) (w2 : IsPoll f2) :
    Calls Tryd.prog 5 #[f0.val, f1.val, f2.val] w fun e w' => e = .returned (.bool true) ∧ Below w.heap.size w w' := by
  cases h0 : okTS f0.tid f0.seq <;> cases h1 : okTS f1.tid f1.seq <;> cases h2 : okAID f2.aid
  · exact walk000 f0 f1 f2 w E hS w0 w1 w2 h0 h1 h2
  · exact walk001 f0 f1 f2 w E hS w0 w1 w2 h0 h1 h2
  · exact walk010 f0 f1 f2 w E hS w0 w1 w2 h0 h1 h2
  · exact walk011 f0 f1 f2 w E hS w0 w1 w2 h0 h1 h2
  · exact walk100 f0 f1 f2 w E hS w0 w1 w2 h0 h1 h2
  · exact walk101 f0 f1 f2 w E hS w0 w1 w2 h0 h1 h2
  · exact walk110 f0 f1 f2 w E hS w0 w1 w2 h0 h1 h2
  · exact walk111 f0 f1 f2 w E hS w0 w1 w2 h0 h1 h2
end Go.Proofs.YtpiiodnhiolfbaaDoor.ctlBack
