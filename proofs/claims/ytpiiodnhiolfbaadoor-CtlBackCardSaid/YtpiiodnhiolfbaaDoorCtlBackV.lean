/-
  The walk of muezzin/muezzinlaw4.CtlBack: the Go text returns true.
-/
import Derived.Test.YtpiiodnhiolfbaaDoorCtlU
import Derived.Test.YtpiiodnhiolfbaaDoorStand
import Derived.Test.YtpiiodnhiolfbaaDoorOpenC
import Derived.Test.YtpiiodnhiolfbaaDoorErr
import Derived.WalkKit
import Derived.ProofKit
import Derived.Below
namespace Go.Proofs.YtpiiodnhiolfbaaDoor.ctlBack
open Go.ChangeShapes Go.WideShapes Go.ChangeAt Go.RowKit Go.Joins
set_option linter.unusedVariables false
set_option linter.unusedSimpArgs false

theorem wf_snoc {L : List Int} {n : Nat} (hl : L.length = n) (h : ∀ i, i < n → 0 ≤ L.getD i 0 ∧ L.getD i 0 ≤ 255) : ∀ i, i < n + 1 → 0 ≤ (L ++ [0]).getD i 0 ∧ (L ++ [0]).getD i 0 ≤ 255 := by
  intro i hi
  by_cases e : i < n
  · have := h i e
    simpa [List.getD, List.getElem?_append_left (show i < L.length by omega)] using this
  · obtain rfl : i = n := by omega
    subst hl
    simp [List.getD]
theorem bar_facts (q : Brf) (hq : IsBar q) (hok : okTS q.tid q.seq = true) (L : List Int) (hL : L = encW 132 q.t q.f q.tid q.seq) :
    L.length = 20 ∧ (∀ i, i < 20 → 0 ≤ L.getD i 0 ∧ L.getD i 0 ≤ 255) ∧ rdW L 20 132 20 = 0 ∧ outW L 20 132 20 = q ∧ rdW L 20 148 28 = 105 ∧ rdW (L ++ [0]) 21 132 20 = 102 ∧ kindC L 20 = 132 := by
  subst hL
  have hb : begC (encW 132 q.t q.f q.tid q.seq) 20 148 28 = 105 := begC_kind (by omega) (by show (132 : Int) ≠ 148; decide)
  have hc : begC (encW 132 q.t q.f q.tid q.seq ++ [0]) 21 132 20 = 102 := begC_long (fun _ => rfl) (by decide)
  exact ⟨rfl, all_wf rfl (encW_mem 132 _ _ _ _ (by omega) hq.t hq.f hok), rdW_enc 132 q hok, outW_enc 132 q hok, by rw [rdW_beg (by rw [hb]; decide), hb], by rw [rdW_beg (by rw [hc]; decide), hc], rfl⟩
theorem ack_facts (q : Akf) (hq : IsAck q) (hok : okTS q.tid q.seq = true) (L : List Int) (hL : L = encA q) :
    L.length = 28 ∧ (∀ i, i < 28 → 0 ≤ L.getD i 0 ∧ L.getD i 0 ≤ 255) ∧ rdW L 28 148 28 = 0 ∧ outA L 28 = q ∧ rdP L 28 = 105 ∧ rdW (L.take 27) 27 148 28 = 101 ∧ kindC L 28 = 148 := by
  subst hL
  have hb : begC (encA q) 28 164 16 = 105 := begC_kind (by omega) (by show (148 : Int) ≠ 164; decide)
  have hc : begC ((encA q).take 27) 27 148 28 = 101 := begC_end (fun _ => rfl) (by decide)
  exact ⟨rfl, encA_wf q hq.t hq.f hok, rdA_enc q hok, outA_enc q hok hq.map.1 hq.map.2, by rw [rdP_beg (by rw [hb]; decide), hb], by rw [rdW_beg (by rw [hc]; decide), hc], rfl⟩
theorem poll_facts (q : Plf) (hq : IsPoll q) (hok : okAID q.aid = true) (L : List Int) (hL : L = encP q) :
    L.length = 16 ∧ (∀ i, i < 16 → 0 ≤ L.getD i 0 ∧ L.getD i 0 ≤ 255) ∧ rdP L 16 = 0 ∧ outP L 16 = q ∧ rdW L 16 132 20 = 105 ∧ kindC L 16 = 164 := by
  subst hL
  have hb : begC (encP q) 16 132 20 = 105 := begC_kind (by omega) (by show (164 : Int) ≠ 132; decide)
  exact ⟨rfl, encP_wf q hq.b hq.f hok, rdP_enc q hok, outP_enc q hok, by rw [rdW_beg (by rw [hb]; decide), hb], rfl⟩

set_option maxRecDepth 100000 in
set_option maxHeartbeats 8000000 in
theorem walk000 (f0 : Brf) (f1 : Akf) (f2 : Plf) (w : World) (E : Nat → Addr) (hS : Sent w E S14) (w0 : IsBar f0) (w1 : IsAck f1) (w2 : IsPoll f2) (hok0 : okTS f0.tid f0.seq = false) (hok1 : okTS f1.tid f1.seq = false) (hok2 : okAID f2.aid = false) :
    Calls Tryd.prog 5 #[f0.val, f1.val, f2.val] w fun e w' => e = .returned (.bool true) ∧ Below w.heap.size w w' := by
  have HS := Lib.hid hS
  clear w0 w1 w2 hS
  have HB0 := Lib.hid (show Below w.heap.size w (((w.alloc (.cells f0.cells 25)).alloc (.cells f1.cells 28)).alloc (.cells f2.cells 30)) from (((Below.refl w.heap.size w).alloc (Nat.le_refl _) _).alloc (by simp) _).alloc (by simp; omega) _)
  have HG0 := Lib.hid (show (((w.alloc (.cells f0.cells 25)).alloc (.cells f1.cells 28)).alloc (.cells f2.cells 30)).heap[w.heap.size]? = some (.cells f0.cells 25 (0, 0)) from (heap_alloc_old _ _ (by simp; omega)).trans ((heap_alloc_old _ _ (by simp)).trans (heap_alloc_new w _)))
  have HG1 := Lib.hid (show (((w.alloc (.cells f0.cells 25)).alloc (.cells f1.cells 28)).alloc (.cells f2.cells 30)).heap[w.heap.size + 1]? = some (.cells f1.cells 28 (0, 0)) from (heap_alloc_old _ _ (by simp)).trans (by have := heap_alloc_new (w.alloc (.cells f0.cells 25)) (.cells f1.cells 28); rwa [show (w.alloc (.cells f0.cells 25)).heap.size = w.heap.size + 1 by simp] at this))
  have HG2 := Lib.hid (show (((w.alloc (.cells f0.cells 25)).alloc (.cells f1.cells 28)).alloc (.cells f2.cells 30)).heap[w.heap.size + 1 + 1]? = some (.cells f2.cells 30 (0, 0)) from by have := heap_alloc_new ((w.alloc (.cells f0.cells 25)).alloc (.cells f1.cells 28)) (.cells f2.cells 30); rwa [show ((w.alloc (.cells f0.cells 25)).alloc (.cells f1.cells 28)).heap.size = w.heap.size + 1 + 1 by simp] at this)
  have HZ := Lib.hid (show w.heap.size + 1 + 1 < (((w.alloc (.cells f0.cells 25)).alloc (.cells f1.cells 28)).alloc (.cells f2.cells 30)).heap.size by simp)
  go_enter Tryd.func5, Tryd.ntmps5
  go_wp2_with (fail)
  generalize World.alloc (World.alloc (World.alloc w _) _) _ = w0 at *
  refine (first_any _).mono ?_
  rintro e w1 ⟨rfl, hB⟩
  have HB1 := Lib.hid hB
  clear hB
  have HGa := Lib.hid ((HB1.out.block _ (by have := HZ.out; omega)).trans HG0.out)
  go_wp2_with (refine wpList_load_row rfl 25 (.tmp 3) rfl w.heap.size rfl 25 f0.cells (0, 0) _ HGa.out Tryd.underlying25 rfl sizeBar ?_)
  clear HGa
  refine (bar_no f0 E w1 hok0 (HS.out.below (HB0.out.trans (HB1.out.mono HB0.out.size))).four).mono ?_
  rintro e w2 ⟨rfl, hB⟩
  have HB2 := Lib.hid (HB1.out.trans ((hB).mono HB1.out.size))
  clear hB
  have HGa := Lib.hid ((HB2.out.block _ (by have := HZ.out; omega)).trans HG1.out)
  go_wp2_with (refine wpList_load_row rfl 28 (.tmp 4) rfl (w.heap.size + 1) rfl 28 f1.cells (0, 0) _ HGa.out Tryd.underlying28 rfl sizeAck ?_)
  clear HGa
  refine (ack_no f1 E w2 hok1 (HS.out.below (HB0.out.trans (HB2.out.mono HB0.out.size))).four).mono ?_
  rintro e w3 ⟨rfl, hB⟩
  have HB3 := Lib.hid (HB2.out.trans ((hB).mono HB2.out.size))
  clear hB
  have HGa := Lib.hid ((HB3.out.block _ (by have := HZ.out; omega)).trans HG2.out)
  go_wp2_with (refine wpList_load_row rfl 30 (.tmp 5) rfl (w.heap.size + 1 + 1) rfl 30 f2.cells (0, 0) _ HGa.out Tryd.underlying30 rfl sizePoll ?_)
  clear HGa
  refine (poll_no f2 E w3 hok2 (HS.out.below (HB0.out.trans (HB3.out.mono HB0.out.size))).four).mono ?_
  rintro e w4 ⟨rfl, hB⟩
  have HB4 := Lib.hid (HB3.out.trans ((hB).mono HB3.out.size))
  clear hB
  go_wp2
  go_ret
  exact ⟨rfl, HB0.out.trans (HB4.out.mono HB0.out.size)⟩

set_option maxRecDepth 100000 in
set_option maxHeartbeats 8000000 in
theorem walk001 (f0 : Brf) (f1 : Akf) (f2 : Plf) (w : World) (E : Nat → Addr) (hS : Sent w E S14) (w0 : IsBar f0) (w1 : IsAck f1) (w2 : IsPoll f2) (hok0 : okTS f0.tid f0.seq = false) (hok1 : okTS f1.tid f1.seq = false) (hok2 : okAID f2.aid = true) :
    Calls Tryd.prog 5 #[f0.val, f1.val, f2.val] w fun e w' => e = .returned (.bool true) ∧ Below w.heap.size w w' := by
  have HS := Lib.hid hS
  have FA2 := Lib.hid (poll_facts f2 w2 hok2 _ rfl)
  clear w0 w1 w2 hS
  have HB0 := Lib.hid (show Below w.heap.size w (((w.alloc (.cells f0.cells 25)).alloc (.cells f1.cells 28)).alloc (.cells f2.cells 30)) from (((Below.refl w.heap.size w).alloc (Nat.le_refl _) _).alloc (by simp) _).alloc (by simp; omega) _)
  have HG0 := Lib.hid (show (((w.alloc (.cells f0.cells 25)).alloc (.cells f1.cells 28)).alloc (.cells f2.cells 30)).heap[w.heap.size]? = some (.cells f0.cells 25 (0, 0)) from (heap_alloc_old _ _ (by simp; omega)).trans ((heap_alloc_old _ _ (by simp)).trans (heap_alloc_new w _)))
  have HG1 := Lib.hid (show (((w.alloc (.cells f0.cells 25)).alloc (.cells f1.cells 28)).alloc (.cells f2.cells 30)).heap[w.heap.size + 1]? = some (.cells f1.cells 28 (0, 0)) from (heap_alloc_old _ _ (by simp)).trans (by have := heap_alloc_new (w.alloc (.cells f0.cells 25)) (.cells f1.cells 28); rwa [show (w.alloc (.cells f0.cells 25)).heap.size = w.heap.size + 1 by simp] at this))
  have HG2 := Lib.hid (show (((w.alloc (.cells f0.cells 25)).alloc (.cells f1.cells 28)).alloc (.cells f2.cells 30)).heap[w.heap.size + 1 + 1]? = some (.cells f2.cells 30 (0, 0)) from by have := heap_alloc_new ((w.alloc (.cells f0.cells 25)).alloc (.cells f1.cells 28)) (.cells f2.cells 30); rwa [show ((w.alloc (.cells f0.cells 25)).alloc (.cells f1.cells 28)).heap.size = w.heap.size + 1 + 1 by simp] at this)
  have HZ := Lib.hid (show w.heap.size + 1 + 1 < (((w.alloc (.cells f0.cells 25)).alloc (.cells f1.cells 28)).alloc (.cells f2.cells 30)).heap.size by simp)
  go_enter Tryd.func5, Tryd.ntmps5
  go_wp2_with (fail)
  generalize World.alloc (World.alloc (World.alloc w _) _) _ = w0 at *
  refine (first_any _).mono ?_
  rintro e w1 ⟨rfl, hB⟩
  have HB1 := Lib.hid hB
  clear hB
  have HGa := Lib.hid ((HB1.out.block _ (by have := HZ.out; omega)).trans HG0.out)
  go_wp2_with (refine wpList_load_row rfl 25 (.tmp 3) rfl w.heap.size rfl 25 f0.cells (0, 0) _ HGa.out Tryd.underlying25 rfl sizeBar ?_)
  clear HGa
  refine (bar_no f0 E w1 hok0 (HS.out.below (HB0.out.trans (HB1.out.mono HB0.out.size))).four).mono ?_
  rintro e w2 ⟨rfl, hB⟩
  have HB2 := Lib.hid (HB1.out.trans ((hB).mono HB1.out.size))
  clear hB
  have HGa := Lib.hid ((HB2.out.block _ (by have := HZ.out; omega)).trans HG1.out)
  go_wp2_with (refine wpList_load_row rfl 28 (.tmp 4) rfl (w.heap.size + 1) rfl 28 f1.cells (0, 0) _ HGa.out Tryd.underlying28 rfl sizeAck ?_)
  clear HGa
  refine (ack_no f1 E w2 hok1 (HS.out.below (HB0.out.trans (HB2.out.mono HB0.out.size))).four).mono ?_
  rintro e w3 ⟨rfl, hB⟩
  have HB3 := Lib.hid (HB2.out.trans ((hB).mono HB2.out.size))
  clear hB
  have HGa := Lib.hid ((HB3.out.block _ (by have := HZ.out; omega)).trans HG2.out)
  go_wp2_with (refine wpList_load_row rfl 30 (.tmp 5) rfl (w.heap.size + 1 + 1) rfl 30 f2.cells (0, 0) _ HGa.out Tryd.underlying30 rfl sizePoll ?_)
  clear HGa
  refine (poll_yes f2 w3 hok2).mono ?_
  rintro e w4 ⟨gx2, cx2, rfl, hO, hB⟩
  have HB4 := Lib.hid (HB3.out.trans ((hB).mono HB3.out.size))
  clear hB
  generalize encP f2 = L2 at *
  have HO2 := Lib.hid hO
  have HN2 := Lib.hid (show cx2 ≥ 16 from hO.cap_le)
  clear hO
  have HX2 := Lib.hid (show w3.heap.size ≤ gx2 ∧ gx2 < w4.heap.size from HO2.out.lt)
  go_wp2_with (fail)
  have HC := Lib.hid (readPoll_all (some ⟨gx2, 0, none⟩) 16 cx2 L2 E w4 (HO2.out.row8 FA2.out.2.1) (HS.out.below (HB0.out.trans (HB4.out.mono HB0.out.size))).four HN2.out)
  rw [FA2.out.2.2.1, FA2.out.2.2.2.1, errV_zero] at HC
  refine (HC.out).mono ?_
  rintro e w5 ⟨rfl, hB⟩
  have HB5 := Lib.hid (HB4.out.trans ((hB).mono HB4.out.size))
  have HOt := Lib.hid (HO2.out.below hB HO2.out.lt.2)
  clear HO2
  have HO2 := HOt
  clear HOt
  clear hB
  clear HC
  have HA := Lib.hid ((Below.refl w5.heap.size w5).alloc (Nat.le_refl _) (.cells f2.cells 30))
  have HB6 := Lib.hid (HB5.out.trans ((HA.out).mono HB5.out.size))
  have HOt := Lib.hid (HO2.out.below HA.out HO2.out.lt.2)
  clear HO2
  have HO2 := HOt
  clear HOt
  have HFs := Lib.hid (heap_alloc_last w5 (.cells f2.cells 30))
  have HLs := Lib.hid (show w5.heap.size < (w5.alloc (.cells f2.cells 30)).heap.size by simp)
  clear HA
  go_wp2_with (first
    | (refine wpList_store_row rfl 30 (.tmp 26) (.tmp 136) rfl w5.heap.size f2.cells rfl rfl 30 Go.Proofs.YtpiiodnhiolfbaaDoor.p0.cells (heap_alloc_last _ _) sizePoll rfl (Plf.oneCell _) ?_; rw [World.setRow_alloc_new]; generalize World.alloc w5 _ = w6 at *))
  have HC := Lib.hid (readBar_all (some ⟨gx2, 0, none⟩) 16 cx2 L2 E w6 (HO2.out.row8 FA2.out.2.1) (HS.out.below (HB0.out.trans (HB6.out.mono HB0.out.size))).four HN2.out)
  rw [FA2.out.2.2.2.2.1, show errV E 105 = errP (E 105) from rfl] at HC
  generalize outW L2 16 132 20 = qd at HC
  refine (HC.out).mono ?_
  rintro e w7 ⟨rfl, hB⟩
  have HB7 := Lib.hid (HB6.out.trans ((hB).mono HB6.out.size))
  have HOt := Lib.hid (HO2.out.below hB HO2.out.lt.2)
  clear HO2
  have HO2 := HOt
  clear HOt
  have HFt := Lib.hid (((hB).block _ HLs.out).trans HFs.out)
  have HLt := Lib.hid (Nat.lt_of_lt_of_le HLs.out (hB).size)
  clear HFs HLs
  have HFs := HFt
  have HLs := HLt
  clear HFt HLt
  clear hB
  clear HC
  have HA := Lib.hid ((Below.refl w7.heap.size w7).alloc (Nat.le_refl _) (.cells qd.cells 25))
  have HB8 := Lib.hid (HB7.out.trans ((HA.out).mono HB7.out.size))
  have HOt := Lib.hid (HO2.out.below HA.out HO2.out.lt.2)
  clear HO2
  have HO2 := HOt
  clear HOt
  have HFt := Lib.hid (((HA.out).block _ HLs.out).trans HFs.out)
  have HLt := Lib.hid (Nat.lt_of_lt_of_le HLs.out (HA.out).size)
  clear HFs HLs
  have HFs := HFt
  have HLs := HLt
  clear HFt HLt
  have HGa := Lib.hid ((HB8.out.block _ (by have := HZ.out; omega)).trans HG2.out)
  clear HA
  go_wp2_with (first
    | (refine wpList_store_row rfl 25 (.tmp 28) (.tmp 141) rfl w7.heap.size qd.cells rfl rfl 25 Go.Proofs.YtpiiodnhiolfbaaDoor.b0.cells (heap_alloc_last _ _) sizeBar rfl (Brf.oneCell _) ?_; rw [World.setRow_alloc_new]; generalize World.alloc w7 _ = w8 at *)
    | (refine wpList_load_if (by rfl) 30 (.tmp 26) rfl w5.heap.size rfl 30 f2.cells (0, 0) _ HFs.out Tryd.underlying30 rfl sizePoll ?_)
    | (refine wpList_load_if (by rfl) 30 (.tmp 5) rfl (w.heap.size + 1 + 1) rfl 30 f2.cells (0, 0) _ HGa.out Tryd.underlying30 rfl sizePoll ?_))
  clear HGa
  refine (samePoll_any f2 f2 w8).mono ?_
  rintro e w9 ⟨rfl, hB⟩
  have HB9 := Lib.hid (HB8.out.trans ((hB).mono HB8.out.size))
  have HOt := Lib.hid (HO2.out.below hB HO2.out.lt.2)
  clear HO2
  have HO2 := HOt
  clear HOt
  have HFt := Lib.hid (((hB).block _ HLs.out).trans HFs.out)
  have HLt := Lib.hid (Nat.lt_of_lt_of_le HLs.out (hB).size)
  clear HFs HLs
  have HFs := HFt
  have HLs := HLt
  clear HFt HLt
  clear hB
  rw [sameP_refl]
  go_wp2_with (fail)
  refine (is_err E 105 105 w9 (HS.out.below (HB0.out.trans (HB9.out.mono HB0.out.size))) (.inr (by decide))).mono ?_
  rintro e w10 ⟨rfl, hB⟩
  have HB10 := Lib.hid (HB9.out.trans ((hB).mono HB9.out.size))
  have HOt := Lib.hid (HO2.out.below hB HO2.out.lt.2)
  clear HO2
  have HO2 := HOt
  clear HOt
  have HFt := Lib.hid (((hB).block _ HLs.out).trans HFs.out)
  have HLt := Lib.hid (Nat.lt_of_lt_of_le HLs.out (hB).size)
  clear HFs HLs
  have HFs := HFt
  have HLs := HLt
  clear HFt HLt
  clear hB
  go_wp2_with (fail)
  refine (kindC_any _ 16 _ L2 w10 (HO2.out.row8 FA2.out.2.1)).mono ?_
  rintro e w' ⟨rfl, rfl⟩
  rw [FA2.out.2.2.2.2.2]
  go_wp2
  go_ret
  exact ⟨rfl, HB0.out.trans (HB10.out.mono HB0.out.size)⟩

set_option maxRecDepth 100000 in
set_option maxHeartbeats 8000000 in
theorem walk010 (f0 : Brf) (f1 : Akf) (f2 : Plf) (w : World) (E : Nat → Addr) (hS : Sent w E S14) (w0 : IsBar f0) (w1 : IsAck f1) (w2 : IsPoll f2) (hok0 : okTS f0.tid f0.seq = false) (hok1 : okTS f1.tid f1.seq = true) (hok2 : okAID f2.aid = false) :
    Calls Tryd.prog 5 #[f0.val, f1.val, f2.val] w fun e w' => e = .returned (.bool true) ∧ Below w.heap.size w w' := by
  have HS := Lib.hid hS
  have FA1 := Lib.hid (ack_facts f1 w1 hok1 _ rfl)
  clear w0 w1 w2 hS
  have HB0 := Lib.hid (show Below w.heap.size w (((w.alloc (.cells f0.cells 25)).alloc (.cells f1.cells 28)).alloc (.cells f2.cells 30)) from (((Below.refl w.heap.size w).alloc (Nat.le_refl _) _).alloc (by simp) _).alloc (by simp; omega) _)
  have HG0 := Lib.hid (show (((w.alloc (.cells f0.cells 25)).alloc (.cells f1.cells 28)).alloc (.cells f2.cells 30)).heap[w.heap.size]? = some (.cells f0.cells 25 (0, 0)) from (heap_alloc_old _ _ (by simp; omega)).trans ((heap_alloc_old _ _ (by simp)).trans (heap_alloc_new w _)))
  have HG1 := Lib.hid (show (((w.alloc (.cells f0.cells 25)).alloc (.cells f1.cells 28)).alloc (.cells f2.cells 30)).heap[w.heap.size + 1]? = some (.cells f1.cells 28 (0, 0)) from (heap_alloc_old _ _ (by simp)).trans (by have := heap_alloc_new (w.alloc (.cells f0.cells 25)) (.cells f1.cells 28); rwa [show (w.alloc (.cells f0.cells 25)).heap.size = w.heap.size + 1 by simp] at this))
  have HG2 := Lib.hid (show (((w.alloc (.cells f0.cells 25)).alloc (.cells f1.cells 28)).alloc (.cells f2.cells 30)).heap[w.heap.size + 1 + 1]? = some (.cells f2.cells 30 (0, 0)) from by have := heap_alloc_new ((w.alloc (.cells f0.cells 25)).alloc (.cells f1.cells 28)) (.cells f2.cells 30); rwa [show ((w.alloc (.cells f0.cells 25)).alloc (.cells f1.cells 28)).heap.size = w.heap.size + 1 + 1 by simp] at this)
  have HZ := Lib.hid (show w.heap.size + 1 + 1 < (((w.alloc (.cells f0.cells 25)).alloc (.cells f1.cells 28)).alloc (.cells f2.cells 30)).heap.size by simp)
  go_enter Tryd.func5, Tryd.ntmps5
  go_wp2_with (fail)
  generalize World.alloc (World.alloc (World.alloc w _) _) _ = w0 at *
  refine (first_any _).mono ?_
  rintro e w1 ⟨rfl, hB⟩
  have HB1 := Lib.hid hB
  clear hB
  have HGa := Lib.hid ((HB1.out.block _ (by have := HZ.out; omega)).trans HG0.out)
  go_wp2_with (refine wpList_load_row rfl 25 (.tmp 3) rfl w.heap.size rfl 25 f0.cells (0, 0) _ HGa.out Tryd.underlying25 rfl sizeBar ?_)
  clear HGa
  refine (bar_no f0 E w1 hok0 (HS.out.below (HB0.out.trans (HB1.out.mono HB0.out.size))).four).mono ?_
  rintro e w2 ⟨rfl, hB⟩
  have HB2 := Lib.hid (HB1.out.trans ((hB).mono HB1.out.size))
  clear hB
  have HGa := Lib.hid ((HB2.out.block _ (by have := HZ.out; omega)).trans HG1.out)
  go_wp2_with (refine wpList_load_row rfl 28 (.tmp 4) rfl (w.heap.size + 1) rfl 28 f1.cells (0, 0) _ HGa.out Tryd.underlying28 rfl sizeAck ?_)
  clear HGa
  refine (ack_yes f1 w2 hok1).mono ?_
  rintro e w3 ⟨gx1, cx1, rfl, hO, hB⟩
  have HB3 := Lib.hid (HB2.out.trans ((hB).mono HB2.out.size))
  clear hB
  generalize encA f1 = L1 at *
  have HO1 := Lib.hid hO
  have HN1 := Lib.hid (show cx1 ≥ 28 from hO.cap_le)
  clear hO
  have HX1 := Lib.hid (show w2.heap.size ≤ gx1 ∧ gx1 < w3.heap.size from HO1.out.lt)
  have HGa := Lib.hid ((HB3.out.block _ (by have := HZ.out; omega)).trans HG2.out)
  go_wp2_with (refine wpList_load_row rfl 30 (.tmp 5) rfl (w.heap.size + 1 + 1) rfl 30 f2.cells (0, 0) _ HGa.out Tryd.underlying30 rfl sizePoll ?_)
  clear HGa
  refine (poll_no f2 E w3 hok2 (HS.out.below (HB0.out.trans (HB3.out.mono HB0.out.size))).four).mono ?_
  rintro e w4 ⟨rfl, hB⟩
  have HB4 := Lib.hid (HB3.out.trans ((hB).mono HB3.out.size))
  have HOt := Lib.hid (HO1.out.below hB HO1.out.lt.2)
  clear HO1
  have HO1 := HOt
  clear HOt
  clear hB
  go_wp2_with (fail)
  have HC := Lib.hid (readAck_all (some ⟨gx1, 0, none⟩) 28 cx1 L1 E w4 (HO1.out.row8 FA1.out.2.1) (HS.out.below (HB0.out.trans (HB4.out.mono HB0.out.size))).four HN1.out)
  rw [FA1.out.2.2.1, FA1.out.2.2.2.1, errV_zero] at HC
  refine (HC.out).mono ?_
  rintro e w5 ⟨rfl, hB⟩
  have HB5 := Lib.hid (HB4.out.trans ((hB).mono HB4.out.size))
  have HOt := Lib.hid (HO1.out.below hB HO1.out.lt.2)
  clear HO1
  have HO1 := HOt
  clear HOt
  clear hB
  clear HC
  have HA := Lib.hid ((Below.refl w5.heap.size w5).alloc (Nat.le_refl _) (.cells f1.cells 28))
  have HB6 := Lib.hid (HB5.out.trans ((HA.out).mono HB5.out.size))
  have HOt := Lib.hid (HO1.out.below HA.out HO1.out.lt.2)
  clear HO1
  have HO1 := HOt
  clear HOt
  have HFr := Lib.hid (heap_alloc_last w5 (.cells f1.cells 28))
  have HLr := Lib.hid (show w5.heap.size < (w5.alloc (.cells f1.cells 28)).heap.size by simp)
  clear HA
  go_wp2_with (first
    | (refine wpList_store_row rfl 28 (.tmp 20) (.tmp 95) rfl w5.heap.size f1.cells rfl rfl 28 Go.Proofs.YtpiiodnhiolfbaaDoor.a0.cells (heap_alloc_last _ _) sizeAck rfl (Akf.oneCell _) ?_; rw [World.setRow_alloc_new]; generalize World.alloc w5 _ = w6 at *))
  have HC := Lib.hid (readPoll_all (some ⟨gx1, 0, none⟩) 28 cx1 L1 E w6 (HO1.out.row8 FA1.out.2.1) (HS.out.below (HB0.out.trans (HB6.out.mono HB0.out.size))).four HN1.out)
  rw [FA1.out.2.2.2.2.1, show errV E 105 = errP (E 105) from rfl] at HC
  generalize outP L1 28 = qp at HC
  refine (HC.out).mono ?_
  rintro e w7 ⟨rfl, hB⟩
  have HB7 := Lib.hid (HB6.out.trans ((hB).mono HB6.out.size))
  have HOt := Lib.hid (HO1.out.below hB HO1.out.lt.2)
  clear HO1
  have HO1 := HOt
  clear HOt
  have HFt := Lib.hid (((hB).block _ HLr.out).trans HFr.out)
  have HLt := Lib.hid (Nat.lt_of_lt_of_le HLr.out (hB).size)
  clear HFr HLr
  have HFr := HFt
  have HLr := HLt
  clear HFt HLt
  clear hB
  clear HC
  have k27 : (27 : Int) ≤ (cx1 : Int) := by have := HN1.out; omega
  have HA := Lib.hid ((Below.refl w7.heap.size w7).alloc (Nat.le_refl _) (.cells qp.cells 30))
  have HB8 := Lib.hid (HB7.out.trans ((HA.out).mono HB7.out.size))
  have HOt := Lib.hid (HO1.out.below HA.out HO1.out.lt.2)
  clear HO1
  have HO1 := HOt
  clear HOt
  have HFt := Lib.hid (((HA.out).block _ HLr.out).trans HFr.out)
  have HLt := Lib.hid (Nat.lt_of_lt_of_le HLr.out (HA.out).size)
  clear HFr HLr
  have HFr := HFt
  have HLr := HLt
  clear HFt HLt
  clear HA
  go_wp2_with (first
    | (refine wpList_store_row rfl 30 (.tmp 22) (.tmp 100) rfl w7.heap.size qp.cells rfl rfl 30 Go.Proofs.YtpiiodnhiolfbaaDoor.p0.cells (heap_alloc_last _ _) sizePoll rfl (Plf.oneCell _) ?_; rw [World.setRow_alloc_new]; generalize World.alloc w7 _ = w8 at *))
  have HC := Lib.hid (readAck_all (some ⟨gx1, 0, none⟩) 27 cx1 (L1.take 27) E w8 ((HO1.out.row8 FA1.out.2.1).first 27 (by omega)) (HS.out.below (HB0.out.trans (HB8.out.mono HB0.out.size))).four (by have := HN1.out; omega))
  rw [FA1.out.2.2.2.2.2.1, show errV E 101 = errP (E 101) from rfl] at HC
  generalize outA (L1.take 27) 27 = qc at HC
  refine (HC.out).mono ?_
  rintro e w9 ⟨rfl, hB⟩
  have HB9 := Lib.hid (HB8.out.trans ((hB).mono HB8.out.size))
  have HOt := Lib.hid (HO1.out.below hB HO1.out.lt.2)
  clear HO1
  have HO1 := HOt
  clear HOt
  have HFt := Lib.hid (((hB).block _ HLr.out).trans HFr.out)
  have HLt := Lib.hid (Nat.lt_of_lt_of_le HLr.out (hB).size)
  clear HFr HLr
  have HFr := HFt
  have HLr := HLt
  clear HFt HLt
  clear hB
  clear HC k27
  have HA := Lib.hid ((Below.refl w9.heap.size w9).alloc (Nat.le_refl _) (.cells qc.cells 28))
  have HB10 := Lib.hid (HB9.out.trans ((HA.out).mono HB9.out.size))
  have HOt := Lib.hid (HO1.out.below HA.out HO1.out.lt.2)
  clear HO1
  have HO1 := HOt
  clear HOt
  have HFt := Lib.hid (((HA.out).block _ HLr.out).trans HFr.out)
  have HLt := Lib.hid (Nat.lt_of_lt_of_le HLr.out (HA.out).size)
  clear HFr HLr
  have HFr := HFt
  have HLr := HLt
  clear HFt HLt
  have HGa := Lib.hid ((HB10.out.block _ (by have := HZ.out; omega)).trans HG1.out)
  clear HA
  go_wp2_with (first
    | (refine wpList_store_row rfl 28 (.tmp 24) (.tmp 106) rfl w9.heap.size qc.cells rfl rfl 28 Go.Proofs.YtpiiodnhiolfbaaDoor.a0.cells (heap_alloc_last _ _) sizeAck rfl (Akf.oneCell _) ?_; rw [World.setRow_alloc_new]; generalize World.alloc w9 _ = w10 at *)
    | (refine wpList_load_if (by rfl) 28 (.tmp 20) rfl w5.heap.size rfl 28 f1.cells (0, 0) _ HFr.out Tryd.underlying28 rfl sizeAck ?_)
    | (refine wpList_load_if (by rfl) 28 (.tmp 4) rfl (w.heap.size + 1) rfl 28 f1.cells (0, 0) _ HGa.out Tryd.underlying28 rfl sizeAck ?_))
  clear HGa
  refine (sameAck_any f1 f1 w10).mono ?_
  rintro e w11 ⟨rfl, hB⟩
  have HB11 := Lib.hid (HB10.out.trans ((hB).mono HB10.out.size))
  have HOt := Lib.hid (HO1.out.below hB HO1.out.lt.2)
  clear HO1
  have HO1 := HOt
  clear HOt
  have HFt := Lib.hid (((hB).block _ HLr.out).trans HFr.out)
  have HLt := Lib.hid (Nat.lt_of_lt_of_le HLr.out (hB).size)
  clear HFr HLr
  have HFr := HFt
  have HLr := HLt
  clear HFt HLt
  clear hB
  rw [sameA_refl]
  go_wp2_with (fail)
  refine (is_err E 105 105 w11 (HS.out.below (HB0.out.trans (HB11.out.mono HB0.out.size))) (.inr (by decide))).mono ?_
  rintro e w12 ⟨rfl, hB⟩
  have HB12 := Lib.hid (HB11.out.trans ((hB).mono HB11.out.size))
  have HOt := Lib.hid (HO1.out.below hB HO1.out.lt.2)
  clear HO1
  have HO1 := HOt
  clear HOt
  have HFt := Lib.hid (((hB).block _ HLr.out).trans HFr.out)
  have HLt := Lib.hid (Nat.lt_of_lt_of_le HLr.out (hB).size)
  clear HFr HLr
  have HFr := HFt
  have HLr := HLt
  clear HFt HLt
  clear hB
  go_wp2_with (fail)
  refine (is_err E 101 101 w12 (HS.out.below (HB0.out.trans (HB12.out.mono HB0.out.size))) (.inr (by decide))).mono ?_
  rintro e w13 ⟨rfl, hB⟩
  have HB13 := Lib.hid (HB12.out.trans ((hB).mono HB12.out.size))
  have HOt := Lib.hid (HO1.out.below hB HO1.out.lt.2)
  clear HO1
  have HO1 := HOt
  clear HOt
  have HFt := Lib.hid (((hB).block _ HLr.out).trans HFr.out)
  have HLt := Lib.hid (Nat.lt_of_lt_of_le HLr.out (hB).size)
  clear HFr HLr
  have HFr := HFt
  have HLr := HLt
  clear HFt HLt
  clear hB
  go_wp2_with (fail)
  refine (kindC_any _ 28 _ L1 w13 (HO1.out.row8 FA1.out.2.1)).mono ?_
  rintro e w' ⟨rfl, rfl⟩
  rw [FA1.out.2.2.2.2.2.2]
  clear HFr HLr HO1
  go_wp2
  go_ret
  exact ⟨rfl, HB0.out.trans (HB13.out.mono HB0.out.size)⟩

set_option maxRecDepth 100000 in
set_option maxHeartbeats 8000000 in
theorem walk011 (f0 : Brf) (f1 : Akf) (f2 : Plf) (w : World) (E : Nat → Addr) (hS : Sent w E S14) (w0 : IsBar f0) (w1 : IsAck f1) (w2 : IsPoll f2) (hok0 : okTS f0.tid f0.seq = false) (hok1 : okTS f1.tid f1.seq = true) (hok2 : okAID f2.aid = true) :
    Calls Tryd.prog 5 #[f0.val, f1.val, f2.val] w fun e w' => e = .returned (.bool true) ∧ Below w.heap.size w w' := by
  have HS := Lib.hid hS
  have FA1 := Lib.hid (ack_facts f1 w1 hok1 _ rfl)
  have FA2 := Lib.hid (poll_facts f2 w2 hok2 _ rfl)
  clear w0 w1 w2 hS
  have HB0 := Lib.hid (show Below w.heap.size w (((w.alloc (.cells f0.cells 25)).alloc (.cells f1.cells 28)).alloc (.cells f2.cells 30)) from (((Below.refl w.heap.size w).alloc (Nat.le_refl _) _).alloc (by simp) _).alloc (by simp; omega) _)
  have HG0 := Lib.hid (show (((w.alloc (.cells f0.cells 25)).alloc (.cells f1.cells 28)).alloc (.cells f2.cells 30)).heap[w.heap.size]? = some (.cells f0.cells 25 (0, 0)) from (heap_alloc_old _ _ (by simp; omega)).trans ((heap_alloc_old _ _ (by simp)).trans (heap_alloc_new w _)))
  have HG1 := Lib.hid (show (((w.alloc (.cells f0.cells 25)).alloc (.cells f1.cells 28)).alloc (.cells f2.cells 30)).heap[w.heap.size + 1]? = some (.cells f1.cells 28 (0, 0)) from (heap_alloc_old _ _ (by simp)).trans (by have := heap_alloc_new (w.alloc (.cells f0.cells 25)) (.cells f1.cells 28); rwa [show (w.alloc (.cells f0.cells 25)).heap.size = w.heap.size + 1 by simp] at this))
  have HG2 := Lib.hid (show (((w.alloc (.cells f0.cells 25)).alloc (.cells f1.cells 28)).alloc (.cells f2.cells 30)).heap[w.heap.size + 1 + 1]? = some (.cells f2.cells 30 (0, 0)) from by have := heap_alloc_new ((w.alloc (.cells f0.cells 25)).alloc (.cells f1.cells 28)) (.cells f2.cells 30); rwa [show ((w.alloc (.cells f0.cells 25)).alloc (.cells f1.cells 28)).heap.size = w.heap.size + 1 + 1 by simp] at this)
  have HZ := Lib.hid (show w.heap.size + 1 + 1 < (((w.alloc (.cells f0.cells 25)).alloc (.cells f1.cells 28)).alloc (.cells f2.cells 30)).heap.size by simp)
  go_enter Tryd.func5, Tryd.ntmps5
  go_wp2_with (fail)
  generalize World.alloc (World.alloc (World.alloc w _) _) _ = w0 at *
  refine (first_any _).mono ?_
  rintro e w1 ⟨rfl, hB⟩
  have HB1 := Lib.hid hB
  clear hB
  have HGa := Lib.hid ((HB1.out.block _ (by have := HZ.out; omega)).trans HG0.out)
  go_wp2_with (refine wpList_load_row rfl 25 (.tmp 3) rfl w.heap.size rfl 25 f0.cells (0, 0) _ HGa.out Tryd.underlying25 rfl sizeBar ?_)
  clear HGa
  refine (bar_no f0 E w1 hok0 (HS.out.below (HB0.out.trans (HB1.out.mono HB0.out.size))).four).mono ?_
  rintro e w2 ⟨rfl, hB⟩
  have HB2 := Lib.hid (HB1.out.trans ((hB).mono HB1.out.size))
  clear hB
  have HGa := Lib.hid ((HB2.out.block _ (by have := HZ.out; omega)).trans HG1.out)
  go_wp2_with (refine wpList_load_row rfl 28 (.tmp 4) rfl (w.heap.size + 1) rfl 28 f1.cells (0, 0) _ HGa.out Tryd.underlying28 rfl sizeAck ?_)
  clear HGa
  refine (ack_yes f1 w2 hok1).mono ?_
  rintro e w3 ⟨gx1, cx1, rfl, hO, hB⟩
  have HB3 := Lib.hid (HB2.out.trans ((hB).mono HB2.out.size))
  clear hB
  generalize encA f1 = L1 at *
  have HO1 := Lib.hid hO
  have HN1 := Lib.hid (show cx1 ≥ 28 from hO.cap_le)
  clear hO
  have HX1 := Lib.hid (show w2.heap.size ≤ gx1 ∧ gx1 < w3.heap.size from HO1.out.lt)
  have HGa := Lib.hid ((HB3.out.block _ (by have := HZ.out; omega)).trans HG2.out)
  go_wp2_with (refine wpList_load_row rfl 30 (.tmp 5) rfl (w.heap.size + 1 + 1) rfl 30 f2.cells (0, 0) _ HGa.out Tryd.underlying30 rfl sizePoll ?_)
  clear HGa
  refine (poll_yes f2 w3 hok2).mono ?_
  rintro e w4 ⟨gx2, cx2, rfl, hO, hB⟩
  have HB4 := Lib.hid (HB3.out.trans ((hB).mono HB3.out.size))
  have HOt := Lib.hid (HO1.out.below hB HO1.out.lt.2)
  clear HO1
  have HO1 := HOt
  clear HOt
  clear hB
  generalize encP f2 = L2 at *
  have HO2 := Lib.hid hO
  have HN2 := Lib.hid (show cx2 ≥ 16 from hO.cap_le)
  clear hO
  have HX2 := Lib.hid (show w3.heap.size ≤ gx2 ∧ gx2 < w4.heap.size from HO2.out.lt)
  go_wp2_with (fail)
  have HC := Lib.hid (readAck_all (some ⟨gx1, 0, none⟩) 28 cx1 L1 E w4 (HO1.out.row8 FA1.out.2.1) (HS.out.below (HB0.out.trans (HB4.out.mono HB0.out.size))).four HN1.out)
  rw [FA1.out.2.2.1, FA1.out.2.2.2.1, errV_zero] at HC
  refine (HC.out).mono ?_
  rintro e w5 ⟨rfl, hB⟩
  have HB5 := Lib.hid (HB4.out.trans ((hB).mono HB4.out.size))
  have HOt := Lib.hid (HO1.out.below hB HO1.out.lt.2)
  clear HO1
  have HO1 := HOt
  clear HOt
  have HOt := Lib.hid (HO2.out.below hB HO2.out.lt.2)
  clear HO2
  have HO2 := HOt
  clear HOt
  clear hB
  clear HC
  have HA := Lib.hid ((Below.refl w5.heap.size w5).alloc (Nat.le_refl _) (.cells f1.cells 28))
  have HB6 := Lib.hid (HB5.out.trans ((HA.out).mono HB5.out.size))
  have HOt := Lib.hid (HO1.out.below HA.out HO1.out.lt.2)
  clear HO1
  have HO1 := HOt
  clear HOt
  have HOt := Lib.hid (HO2.out.below HA.out HO2.out.lt.2)
  clear HO2
  have HO2 := HOt
  clear HOt
  have HFr := Lib.hid (heap_alloc_last w5 (.cells f1.cells 28))
  have HLr := Lib.hid (show w5.heap.size < (w5.alloc (.cells f1.cells 28)).heap.size by simp)
  clear HA
  go_wp2_with (first
    | (refine wpList_store_row rfl 28 (.tmp 20) (.tmp 95) rfl w5.heap.size f1.cells rfl rfl 28 Go.Proofs.YtpiiodnhiolfbaaDoor.a0.cells (heap_alloc_last _ _) sizeAck rfl (Akf.oneCell _) ?_; rw [World.setRow_alloc_new]; generalize World.alloc w5 _ = w6 at *))
  have HC := Lib.hid (readPoll_all (some ⟨gx1, 0, none⟩) 28 cx1 L1 E w6 (HO1.out.row8 FA1.out.2.1) (HS.out.below (HB0.out.trans (HB6.out.mono HB0.out.size))).four HN1.out)
  rw [FA1.out.2.2.2.2.1, show errV E 105 = errP (E 105) from rfl] at HC
  generalize outP L1 28 = qp at HC
  refine (HC.out).mono ?_
  rintro e w7 ⟨rfl, hB⟩
  have HB7 := Lib.hid (HB6.out.trans ((hB).mono HB6.out.size))
  have HOt := Lib.hid (HO1.out.below hB HO1.out.lt.2)
  clear HO1
  have HO1 := HOt
  clear HOt
  have HOt := Lib.hid (HO2.out.below hB HO2.out.lt.2)
  clear HO2
  have HO2 := HOt
  clear HOt
  have HFt := Lib.hid (((hB).block _ HLr.out).trans HFr.out)
  have HLt := Lib.hid (Nat.lt_of_lt_of_le HLr.out (hB).size)
  clear HFr HLr
  have HFr := HFt
  have HLr := HLt
  clear HFt HLt
  clear hB
  clear HC
  have k27 : (27 : Int) ≤ (cx1 : Int) := by have := HN1.out; omega
  have HA := Lib.hid ((Below.refl w7.heap.size w7).alloc (Nat.le_refl _) (.cells qp.cells 30))
  have HB8 := Lib.hid (HB7.out.trans ((HA.out).mono HB7.out.size))
  have HOt := Lib.hid (HO1.out.below HA.out HO1.out.lt.2)
  clear HO1
  have HO1 := HOt
  clear HOt
  have HOt := Lib.hid (HO2.out.below HA.out HO2.out.lt.2)
  clear HO2
  have HO2 := HOt
  clear HOt
  have HFt := Lib.hid (((HA.out).block _ HLr.out).trans HFr.out)
  have HLt := Lib.hid (Nat.lt_of_lt_of_le HLr.out (HA.out).size)
  clear HFr HLr
  have HFr := HFt
  have HLr := HLt
  clear HFt HLt
  clear HA
  go_wp2_with (first
    | (refine wpList_store_row rfl 30 (.tmp 22) (.tmp 100) rfl w7.heap.size qp.cells rfl rfl 30 Go.Proofs.YtpiiodnhiolfbaaDoor.p0.cells (heap_alloc_last _ _) sizePoll rfl (Plf.oneCell _) ?_; rw [World.setRow_alloc_new]; generalize World.alloc w7 _ = w8 at *))
  have HC := Lib.hid (readAck_all (some ⟨gx1, 0, none⟩) 27 cx1 (L1.take 27) E w8 ((HO1.out.row8 FA1.out.2.1).first 27 (by omega)) (HS.out.below (HB0.out.trans (HB8.out.mono HB0.out.size))).four (by have := HN1.out; omega))
  rw [FA1.out.2.2.2.2.2.1, show errV E 101 = errP (E 101) from rfl] at HC
  generalize outA (L1.take 27) 27 = qc at HC
  refine (HC.out).mono ?_
  rintro e w9 ⟨rfl, hB⟩
  have HB9 := Lib.hid (HB8.out.trans ((hB).mono HB8.out.size))
  have HOt := Lib.hid (HO1.out.below hB HO1.out.lt.2)
  clear HO1
  have HO1 := HOt
  clear HOt
  have HOt := Lib.hid (HO2.out.below hB HO2.out.lt.2)
  clear HO2
  have HO2 := HOt
  clear HOt
  have HFt := Lib.hid (((hB).block _ HLr.out).trans HFr.out)
  have HLt := Lib.hid (Nat.lt_of_lt_of_le HLr.out (hB).size)
  clear HFr HLr
  have HFr := HFt
  have HLr := HLt
  clear HFt HLt
  clear hB
  clear HC k27
  have HA := Lib.hid ((Below.refl w9.heap.size w9).alloc (Nat.le_refl _) (.cells qc.cells 28))
  have HB10 := Lib.hid (HB9.out.trans ((HA.out).mono HB9.out.size))
  have HOt := Lib.hid (HO1.out.below HA.out HO1.out.lt.2)
  clear HO1
  have HO1 := HOt
  clear HOt
  have HOt := Lib.hid (HO2.out.below HA.out HO2.out.lt.2)
  clear HO2
  have HO2 := HOt
  clear HOt
  have HFt := Lib.hid (((HA.out).block _ HLr.out).trans HFr.out)
  have HLt := Lib.hid (Nat.lt_of_lt_of_le HLr.out (HA.out).size)
  clear HFr HLr
  have HFr := HFt
  have HLr := HLt
  clear HFt HLt
  have HGa := Lib.hid ((HB10.out.block _ (by have := HZ.out; omega)).trans HG1.out)
  clear HA
  go_wp2_with (first
    | (refine wpList_store_row rfl 28 (.tmp 24) (.tmp 106) rfl w9.heap.size qc.cells rfl rfl 28 Go.Proofs.YtpiiodnhiolfbaaDoor.a0.cells (heap_alloc_last _ _) sizeAck rfl (Akf.oneCell _) ?_; rw [World.setRow_alloc_new]; generalize World.alloc w9 _ = w10 at *)
    | (refine wpList_load_if (by rfl) 28 (.tmp 20) rfl w5.heap.size rfl 28 f1.cells (0, 0) _ HFr.out Tryd.underlying28 rfl sizeAck ?_)
    | (refine wpList_load_if (by rfl) 28 (.tmp 4) rfl (w.heap.size + 1) rfl 28 f1.cells (0, 0) _ HGa.out Tryd.underlying28 rfl sizeAck ?_))
  clear HGa
  refine (sameAck_any f1 f1 w10).mono ?_
  rintro e w11 ⟨rfl, hB⟩
  have HB11 := Lib.hid (HB10.out.trans ((hB).mono HB10.out.size))
  have HOt := Lib.hid (HO1.out.below hB HO1.out.lt.2)
  clear HO1
  have HO1 := HOt
  clear HOt
  have HOt := Lib.hid (HO2.out.below hB HO2.out.lt.2)
  clear HO2
  have HO2 := HOt
  clear HOt
  have HFt := Lib.hid (((hB).block _ HLr.out).trans HFr.out)
  have HLt := Lib.hid (Nat.lt_of_lt_of_le HLr.out (hB).size)
  clear HFr HLr
  have HFr := HFt
  have HLr := HLt
  clear HFt HLt
  clear hB
  rw [sameA_refl]
  go_wp2_with (fail)
  refine (is_err E 105 105 w11 (HS.out.below (HB0.out.trans (HB11.out.mono HB0.out.size))) (.inr (by decide))).mono ?_
  rintro e w12 ⟨rfl, hB⟩
  have HB12 := Lib.hid (HB11.out.trans ((hB).mono HB11.out.size))
  have HOt := Lib.hid (HO1.out.below hB HO1.out.lt.2)
  clear HO1
  have HO1 := HOt
  clear HOt
  have HOt := Lib.hid (HO2.out.below hB HO2.out.lt.2)
  clear HO2
  have HO2 := HOt
  clear HOt
  have HFt := Lib.hid (((hB).block _ HLr.out).trans HFr.out)
  have HLt := Lib.hid (Nat.lt_of_lt_of_le HLr.out (hB).size)
  clear HFr HLr
  have HFr := HFt
  have HLr := HLt
  clear HFt HLt
  clear hB
  go_wp2_with (fail)
  refine (is_err E 101 101 w12 (HS.out.below (HB0.out.trans (HB12.out.mono HB0.out.size))) (.inr (by decide))).mono ?_
  rintro e w13 ⟨rfl, hB⟩
  have HB13 := Lib.hid (HB12.out.trans ((hB).mono HB12.out.size))
  have HOt := Lib.hid (HO1.out.below hB HO1.out.lt.2)
  clear HO1
  have HO1 := HOt
  clear HOt
  have HOt := Lib.hid (HO2.out.below hB HO2.out.lt.2)
  clear HO2
  have HO2 := HOt
  clear HOt
  have HFt := Lib.hid (((hB).block _ HLr.out).trans HFr.out)
  have HLt := Lib.hid (Nat.lt_of_lt_of_le HLr.out (hB).size)
  clear HFr HLr
  have HFr := HFt
  have HLr := HLt
  clear HFt HLt
  clear hB
  go_wp2_with (fail)
  refine (kindC_any _ 28 _ L1 w13 (HO1.out.row8 FA1.out.2.1)).mono ?_
  rintro e w' ⟨rfl, rfl⟩
  rw [FA1.out.2.2.2.2.2.2]
  clear HFr HLr HO1
  go_wp2_with (fail)
  have HC := Lib.hid (readPoll_all (some ⟨gx2, 0, none⟩) 16 cx2 L2 E w13 (HO2.out.row8 FA2.out.2.1) (HS.out.below (HB0.out.trans (HB13.out.mono HB0.out.size))).four HN2.out)
  rw [FA2.out.2.2.1, FA2.out.2.2.2.1, errV_zero] at HC
  refine (HC.out).mono ?_
  rintro e w14 ⟨rfl, hB⟩
  have HB14 := Lib.hid (HB13.out.trans ((hB).mono HB13.out.size))
  have HOt := Lib.hid (HO2.out.below hB HO2.out.lt.2)
  clear HO2
  have HO2 := HOt
  clear HOt
  clear hB
  clear HC
  have HA := Lib.hid ((Below.refl w14.heap.size w14).alloc (Nat.le_refl _) (.cells f2.cells 30))
  have HB15 := Lib.hid (HB14.out.trans ((HA.out).mono HB14.out.size))
  have HOt := Lib.hid (HO2.out.below HA.out HO2.out.lt.2)
  clear HO2
  have HO2 := HOt
  clear HOt
  have HFs := Lib.hid (heap_alloc_last w14 (.cells f2.cells 30))
  have HLs := Lib.hid (show w14.heap.size < (w14.alloc (.cells f2.cells 30)).heap.size by simp)
  clear HA
  go_wp2_with (first
    | (refine wpList_store_row rfl 30 (.tmp 26) (.tmp 136) rfl w14.heap.size f2.cells rfl rfl 30 Go.Proofs.YtpiiodnhiolfbaaDoor.p0.cells (heap_alloc_last _ _) sizePoll rfl (Plf.oneCell _) ?_; rw [World.setRow_alloc_new]; generalize World.alloc w14 _ = w15 at *))
  have HC := Lib.hid (readBar_all (some ⟨gx2, 0, none⟩) 16 cx2 L2 E w15 (HO2.out.row8 FA2.out.2.1) (HS.out.below (HB0.out.trans (HB15.out.mono HB0.out.size))).four HN2.out)
  rw [FA2.out.2.2.2.2.1, show errV E 105 = errP (E 105) from rfl] at HC
  generalize outW L2 16 132 20 = qd at HC
  refine (HC.out).mono ?_
  rintro e w16 ⟨rfl, hB⟩
  have HB16 := Lib.hid (HB15.out.trans ((hB).mono HB15.out.size))
  have HOt := Lib.hid (HO2.out.below hB HO2.out.lt.2)
  clear HO2
  have HO2 := HOt
  clear HOt
  have HFt := Lib.hid (((hB).block _ HLs.out).trans HFs.out)
  have HLt := Lib.hid (Nat.lt_of_lt_of_le HLs.out (hB).size)
  clear HFs HLs
  have HFs := HFt
  have HLs := HLt
  clear HFt HLt
  clear hB
  clear HC
  have HA := Lib.hid ((Below.refl w16.heap.size w16).alloc (Nat.le_refl _) (.cells qd.cells 25))
  have HB17 := Lib.hid (HB16.out.trans ((HA.out).mono HB16.out.size))
  have HOt := Lib.hid (HO2.out.below HA.out HO2.out.lt.2)
  clear HO2
  have HO2 := HOt
  clear HOt
  have HFt := Lib.hid (((HA.out).block _ HLs.out).trans HFs.out)
  have HLt := Lib.hid (Nat.lt_of_lt_of_le HLs.out (HA.out).size)
  clear HFs HLs
  have HFs := HFt
  have HLs := HLt
  clear HFt HLt
  have HGa := Lib.hid ((HB17.out.block _ (by have := HZ.out; omega)).trans HG2.out)
  clear HA
  go_wp2_with (first
    | (refine wpList_store_row rfl 25 (.tmp 28) (.tmp 141) rfl w16.heap.size qd.cells rfl rfl 25 Go.Proofs.YtpiiodnhiolfbaaDoor.b0.cells (heap_alloc_last _ _) sizeBar rfl (Brf.oneCell _) ?_; rw [World.setRow_alloc_new]; generalize World.alloc w16 _ = w17 at *)
    | (refine wpList_load_if (by rfl) 30 (.tmp 26) rfl w14.heap.size rfl 30 f2.cells (0, 0) _ HFs.out Tryd.underlying30 rfl sizePoll ?_)
    | (refine wpList_load_if (by rfl) 30 (.tmp 5) rfl (w.heap.size + 1 + 1) rfl 30 f2.cells (0, 0) _ HGa.out Tryd.underlying30 rfl sizePoll ?_))
  clear HGa
  refine (samePoll_any f2 f2 w17).mono ?_
  rintro e w18 ⟨rfl, hB⟩
  have HB18 := Lib.hid (HB17.out.trans ((hB).mono HB17.out.size))
  have HOt := Lib.hid (HO2.out.below hB HO2.out.lt.2)
  clear HO2
  have HO2 := HOt
  clear HOt
  have HFt := Lib.hid (((hB).block _ HLs.out).trans HFs.out)
  have HLt := Lib.hid (Nat.lt_of_lt_of_le HLs.out (hB).size)
  clear HFs HLs
  have HFs := HFt
  have HLs := HLt
  clear HFt HLt
  clear hB
  rw [sameP_refl]
  go_wp2_with (fail)
  refine (is_err E 105 105 w18 (HS.out.below (HB0.out.trans (HB18.out.mono HB0.out.size))) (.inr (by decide))).mono ?_
  rintro e w19 ⟨rfl, hB⟩
  have HB19 := Lib.hid (HB18.out.trans ((hB).mono HB18.out.size))
  have HOt := Lib.hid (HO2.out.below hB HO2.out.lt.2)
  clear HO2
  have HO2 := HOt
  clear HOt
  have HFt := Lib.hid (((hB).block _ HLs.out).trans HFs.out)
  have HLt := Lib.hid (Nat.lt_of_lt_of_le HLs.out (hB).size)
  clear HFs HLs
  have HFs := HFt
  have HLs := HLt
  clear HFt HLt
  clear hB
  go_wp2_with (fail)
  refine (kindC_any _ 16 _ L2 w19 (HO2.out.row8 FA2.out.2.1)).mono ?_
  rintro e w' ⟨rfl, rfl⟩
  rw [FA2.out.2.2.2.2.2]
  go_wp2
  go_ret
  exact ⟨rfl, HB0.out.trans (HB19.out.mono HB0.out.size)⟩

end Go.Proofs.YtpiiodnhiolfbaaDoor.ctlBack
