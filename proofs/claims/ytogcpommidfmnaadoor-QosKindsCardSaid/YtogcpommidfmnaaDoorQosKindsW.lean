/-
  The walk of muezzin/muezzinlaw3.QosKinds: the Go text returns true.
-/
import Derived.Test.YtogcpommidfmnaaDoorQosF
import Derived.Test.YtogcpommidfmnaaDoorZeros
import Derived.Test.YtogcpommidfmnaaDoorOpen
import Derived.Test.YtogcpommidfmnaaDoorErr
import Derived.WalkKit
import Derived.ProofKit
import Derived.Below
namespace Go.Proofs.YtogcpommidfmnaaDoor.qosKinds
open Go.ChangeShapes Go.WideShapes Go.ChangeAt Go.RowKit Go.Joins
set_option linter.unusedVariables false
set_option linter.unusedSimpArgs false

theorem hf_set (q : Qf) (xs : List Int) (a b : Int) (h0 : 0 ≤ q.tid) (h1 : q.tid < 8) (h2 : 0 ≤ q.seq) : hfB (((encQ q xs).set 0 a).set 1 b) = ffB b := by
  obtain ⟨_, _, a3, _⟩ := traf_of q.tid h0 h1 q.e
  have e1 : (((encQ q xs).set 0 a).set 1 b).getD 24 0 = trafOf q.tid q.e := rfl
  have e2 : (((encQ q xs).set 0 a).set 1 b).getD 22 0 = q.seq * 16 % 256 := rfl
  have e4 : (((encQ q xs).set 0 a).set 1 b).getD 1 0 = b := rfl
  have e5 : (((encQ q xs).set 0 a).set 1 b).getD 2 0 = 0 := rfl
  have e6 : (((encQ q xs).set 0 a).set 1 b).getD 3 0 = 0 := rfl
  have e7 : (((encQ q xs).set 0 a).set 1 b).getD 25 0 = 0 := rfl
  have e8 : q.seq * 16 % 256 % 16 = 0 := by omega
  unfold hfB
  rw [e1, e2, e4, e5, e6, e7, a3, e8]
  simp
theorem rd_set (q : Qf) (xs : List Int) (a b : Int) (n : Nat) (h0 : 0 ≤ q.tid) (h1 : q.tid < 8) (h2 : 0 ≤ q.seq) (hn : 26 ≤ n) (hn2 : n ≤ 1526) :
    rdB (((encQ q xs).set 0 a).set 1 b) n = if a ≠ 136 then 105 else if ffB b = false then 102 else 0 := by
  have e0 : (((encQ q xs).set 0 a).set 1 b).getD 0 0 = a := rfl
  unfold rdB
  rw [if_neg (by omega), e0, hf_set q xs a b h0 h1 h2, if_neg (show ¬ 1526 < n by omega)]
theorem rd_long (q : Qf) (xs ys : List Int) (n : Nat) (h0 : 0 ≤ q.tid) (h1 : q.tid < 8) (h2 : 0 ≤ q.seq) (hn : 1526 < n) : rdB (encQ q xs ++ ys) n = 103 := by
  have e : encQ q xs ++ ys = encQ q (xs ++ ys) := by simp [encQ]
  have e0 : (encQ q (xs ++ ys)).getD 0 0 = 136 := rfl
  unfold rdB
  rw [e, if_neg (by omega), e0, hf_enc q _ h0 h1 h2, if_neg (by simp), if_neg (by simp), if_pos hn]
theorem ff40_nat : ∀ n : Nat, n < 256 → (bits .andNot .u8 (n : Int) 40 != 2) = !ffB n := by decide +kernel
theorem set_wf {L : List Int} {n q : Nat} {v : Int} (hl : L.length = n) (h : ∀ i, i < n → 0 ≤ L.getD i 0 ∧ L.getD i 0 ≤ 255) (hv : 0 ≤ v ∧ v ≤ 255) : ∀ i, i < n → 0 ≤ (L.set q v).getD i 0 ∧ (L.set q v).getD i 0 ≤ 255 := by
  intro i hi
  by_cases e : q = i
  · subst e
    simpa [List.getD, List.getElem?_set, hl, hi] using hv
  · have := h i hi
    simpa [List.getD, List.getElem?_set, e] using this
theorem app_wf {L : List Int} {n k : Nat} (hl : L.length = n) (h : ∀ i, i < n → 0 ≤ L.getD i 0 ∧ L.getD i 0 ≤ 255) : ∀ i, i < n + k → 0 ≤ (L ++ List.replicate k 0).getD i 0 ∧ (L ++ List.replicate k 0).getD i 0 ≤ 255 := by
  intro i hi
  by_cases e : i < n
  · have := h i e
    simpa [List.getD, List.getElem?_append, hl, e] using this
  · have : (L ++ List.replicate k (0 : Int)).getD i 0 = 0 := by simp [List.getD, List.getElem?_append, hl, e, List.getElem?_replicate]; split <;> simp
    rw [this]; decide

/-! ### THE WALK -/
set_option maxRecDepth 100000 in
set_option maxHeartbeats 8000000 in
theorem walk (f0 : Qf) (z0 : List Int) (n1 : Int) (n2 : Int) (w : World) (E : Nat → Addr) (hS : Sent w E [101, 102, 103, 104, 105, 106, 107, 108, 109, 110, 111, 112, 113, 114]) (w0 : IsQf w f0 z0) (w1 : (Lit.int .u8 n1).wf = true) (w2 : (Lit.int .u8 n2).wf = true) :
    Calls Tryd.prog 3 #[f0.val, .int .u8 n1, .int .u8 n2] w fun e w' => e = .returned (.bool true) ∧ Below w.heap.size w w' := by
  have HX := Lib.hid (RowB.of_row w0.row)
  have HN := Lib.hid w0.nil
  have HWt := Lib.hid (And.intro w0.t (And.intro w0.b w0.f))
  have HS := Lib.hid hS
  have HLC := Lib.hid w0.row.len_cap.1
  generalize z0.take f0.n = xs at HX
  clear w0 hS
  have HB0 := Lib.hid ((Below.refl w.heap.size w).alloc (Nat.le_refl _) (.cells f0.cells 26))
  have HZ0 := Lib.hid (show w.heap.size < (w.alloc (.cells f0.cells 26)).heap.size by simp)
  have HG0 := Lib.hid (heap_alloc_last w (.cells f0.cells 26))
  have R1 := wf_range w1
  have R2 := wf_range w2
  simp [IntKind.min, IntKind.max, IntKind.signed, IntKind.bits] at R1 R2
  have HR1 := Lib.hid R1
  have HR2 := Lib.hid R2
  clear w1 w2 R1 R2
  by_cases h60 : (60 : Int) < (f0.n : Int)
  · go_enter Tryd.func3, Tryd.ntmps3
    go_wp2_with (fail)
    refine (first_any _).mono ?_
    rintro e w1 ⟨rfl, hB⟩
    have HB1 := Lib.hid hB
    have c23 := q_at hB HZ0.out 23
    dsimp only [Qf.cells] at c23
    clear hB
    go_wp2
    go_ret
    exact ⟨rfl, HB0.out.trans (HB1.out.mono HB0.out.size)⟩
  have hd60 : decide ((60 : Int) < (f0.n : Int)) = false := by simpa using h60
  have h60' : f0.n ≤ 60 := by omega
  clear h60
  go_enter Tryd.func3, Tryd.ntmps3
  go_wp2_with (fail)
  refine (first_any _).mono ?_
  rintro e w1 ⟨rfl, hB⟩
  have HB1 := Lib.hid hB
  have c23 := q_at hB HZ0.out 23
  dsimp only [Qf.cells] at c23
  clear hB
  have HG1 := Lib.hid ((HB1.out.block _ HZ0.out).trans HG0.out)
  have HS1 := Lib.hid (HS.out.below (HB0.out.trans (HB1.out.mono HB0.out.size)))
  have HX1 := Lib.hid (HX.out.below (HB0.out.trans (HB1.out.mono HB0.out.size)))
  go_wp2_with (refine wpList_load_row rfl 26 (.tmp 3) rfl w.heap.size rfl 26 f0.cells (0, 0) _ HG1.out Tryd.underlying26 rfl size26 ?_)
  clear hd60 c23
  by_cases hok : f0.okB = true
  case neg =>
    refine (bytes_no f0 E w1 (by simpa using hok) (HS1.out.at_ 103 (by decide))).mono ?_
    rintro e w2 ⟨rfl, hB⟩
    have HB2 := Lib.hid (HB1.out.trans (hB.mono HB1.out.size))
    clear hB
    go_wp2
    go_ret
    exact ⟨rfl, HB0.out.trans (HB2.out.mono HB0.out.size)⟩
  have HK := Lib.hid (f0.ok_iff.1 hok)
  refine (bytes_yes f0 xs w1 hok HX1.out HN.out).mono ?_
  rintro e w2 ⟨g, cap, rfl, hO, hB⟩
  have HLX := Lib.hid (show 26 + xs.length = 26 + f0.n by rw [HX.out.len])
  have HLL := Lib.hid ((enc_len f0 xs).trans HLX.out)
  have HW := Lib.hid (show ∀ i, i < 26 + f0.n → 0 ≤ (encQ f0 xs).getD i 0 ∧ (encQ f0 xs).getD i 0 ≤ 255 from fun i hi => enc_wf f0 xs hok HWt.out.1 HWt.out.2.1 HWt.out.2.2 (fun i hi => HX.out.wf8 i (by rw [← HX.out.len]; exact hi)) i (by rw [HLX.out]; exact hi))
  obtain ⟨L, hL⟩ : ∃ L, L = encQ f0 xs := ⟨_, rfl⟩
  rw [← hL] at hO HLL HW
  have HLe := Lib.hid hL
  have HO2 := Lib.hid hO
  have HB2 := Lib.hid (HB1.out.trans (hB.mono HB1.out.size))
  clear hok hL hO hB
  go_wp2_with (fail)
  refine (bytes_any _ _ _ L w2 (HO2.out.row8 HW.out) (by omega)).mono ?_
  rintro e w3 ⟨g3, cap3, rfl, hO, hB⟩
  have HO3 := Lib.hid hO
  have HOb3 := Lib.hid (HO2.out.below hB HO2.out.lt.2)
  have HB3 := Lib.hid (HB2.out.trans (hB.mono HB2.out.size))
  clear hO hB
  have hc0 := HO3.out.cell 0 (by omega)
  have hf0 := HO3.out.frozen 0
  have hc1 := HO3.out.cell 1 (by omega)
  have hf1 := HO3.out.frozen 1
  have hcap : (25 : Int) ≤ (cap3 : Int) := by have := HO3.out.cap_le; omega
  have HO4 := Lib.hid ((HO3.out.set 0 n1).set 1 n2)
  have HW4 := Lib.hid (set_wf (q := 1) (by simpa using HLL.out) (set_wf (q := 0) HLL.out HW.out HR1.out) HR2.out)
  have HL4 := Lib.hid (show (L.set 0 n1).set 1 n2 = ((encQ f0 xs).set 0 n1).set 1 n2 by rw [HLe.out])
  have HB4 := Lib.hid ((HB3.out.setCell (p := ⟨g3, 0, none⟩) (Nat.le_trans HB2.out.size HO3.out.lt.1) (.int .u8 n1)).setCell (p := ⟨g3, 1, none⟩) (Nat.le_trans HB2.out.size HO3.out.lt.1) (.int .u8 n2))
  have HOb4 := Lib.hid (HOb3.out.below (((Below.refl w2.heap.size w3).setCell (p := ⟨g3, 0, none⟩) HO3.out.lt.1 (.int .u8 n1)).setCell (p := ⟨g3, 1, none⟩) HO3.out.lt.1 (.int .u8 n2)) HO2.out.lt.2)
  generalize L.getD 0 0 = x0 at *
  generalize L.getD 1 0 = x1 at *
  go_wp2_with (fail)
  generalize hw4 : World.setCell (World.setCell w3 _ _) _ _ = w4 at *
  clear hw4 hc0 hf0 hc1 hf1
  have HRD := Lib.hid (show rdB ((L.set 0 n1).set 1 n2) (26 + f0.n) = if n1 ≠ 136 then 105 else if ffB n2 = false then 102 else 0 by rw [HL4.out]; exact rd_set f0 xs n1 n2 _ HK.out.1 HK.out.2.1 HK.out.2.2.1 (by omega) (by omega))
  have HF40 := Lib.hid (u8all (p := fun v => (bits .andNot .u8 v 40 != 2) = !ffB v) ff40_nat n2 HR2.out.1 HR2.out.2)
  have HRL := Lib.hid (fun n hn => rd_long f0 xs (List.replicate 1501 0) n HK.out.1 HK.out.2.1 HK.out.2.2.1 hn)
  rw [← HLe.out] at HRL
  generalize (L.set 0 n1).set 1 n2 = L1 at *
  have HG4 := Lib.hid ((HB4.out.block _ HZ0.out).trans HG0.out)
  have HS4 := Lib.hid (HS.out.below (HB0.out.trans (HB4.out.mono HB0.out.size)))
  have HX4 := Lib.hid (HX.out.below (HB0.out.trans (HB4.out.mono HB0.out.size)))
  by_cases h136 : n1 = 136
  · cases hff : ffB n2
    · have h40 : (bits .andNot .u8 n2 40 != 2) = true := by rw [HF40.out, hff]; rfl
      have hr : rdB L1 (26 + f0.n) = 102 := by rw [HRD.out]; simp [h136, hff]
      have hn1 : (n1 != 136) = false := by simpa using h136
      have HRR := Lib.hid hr
      have h136' := Lib.hid h136
      have hff' := Lib.hid hff
      clear hr h136 hff
      refine (read_bad _ _ _ L1 E w4 (HO4.out.row8 HW4.out) (HS4.out.sub four14) (by rw [HRR.out]; decide)).mono ?_
      rintro e w5 ⟨rfl, hB⟩
      rw [HRR.out]
      have HB5 := Lib.hid (HB4.out.trans (hB.mono HB4.out.size))
      have HOb5 := Lib.hid (HOb4.out.below hB HOb4.out.lt.2)
      clear hB
      go_wp2_with (refine wpList_store_row rfl 26 (.tmp 11) (.tmp 50) rfl w5.heap.size Go.Proofs.YtogcpommidfmnaaDoor.q0.cells rfl rfl 26 Go.Proofs.YtogcpommidfmnaaDoor.q0.cells (heap_alloc_last _ _) size26 rfl (Qf.oneCell _) ?_; rw [World.setRow_alloc_new])
      have HB6 := Lib.hid (HB5.out.alloc HB5.out.size (.cells Go.Proofs.YtogcpommidfmnaaDoor.q0.cells 26))
      have HOb6 := Lib.hid (HOb5.out.below ((Below.refl w5.heap.size w5).alloc (Nat.le_refl _) (.cells Go.Proofs.YtogcpommidfmnaaDoor.q0.cells 26)) HOb5.out.lt.2)
      have HS6 := Lib.hid (HS.out.below (HB0.out.trans (HB6.out.mono HB0.out.size)))
      generalize World.alloc w5 _ = w6 at *
      refine (read_end _ 25 _ [] E w6 (by omega) (HS6.out.at_ 101 (by decide))).mono ?_
      rintro e w7 ⟨rfl, hB⟩
      have HB7 := Lib.hid (HB6.out.trans (hB.mono HB6.out.size))
      have HOb7 := Lib.hid (HOb6.out.below hB HOb6.out.lt.2)
      clear hB
      go_wp2_with (first
        | (refine wpList_store_row rfl 26 (.tmp 14) (.tmp 61) rfl w7.heap.size Go.Proofs.YtogcpommidfmnaaDoor.q0.cells rfl rfl 26 Go.Proofs.YtogcpommidfmnaaDoor.q0.cells (heap_alloc_last _ _) size26 rfl (Qf.oneCell _) ?_; rw [World.setRow_alloc_new])
        | (refine app_zeros rfl (.tmp 64) _ rfl w1.heap.size g (26 + f0.n) cap 1501 L rfl (HOb7.out.below ((Below.refl w7.heap.size w7).alloc (Nat.le_refl _) (.cells Go.Proofs.YtogcpommidfmnaaDoor.q0.cells 26)) HOb7.out.lt.2) rfl (by omega) (by omega) (by have := HB7.out.size; have := HB1.out.size; have := HOb7.out.lt; simp; omega) ?_; intro g9 cap9 w9 hO9 hb9))
      have HB9 := Lib.hid ((HB7.out.alloc HB7.out.size (.cells Go.Proofs.YtogcpommidfmnaaDoor.q0.cells 26)).trans (hb9.out.mono HB1.out.size))
      have HS9 := Lib.hid (HS.out.below (HB0.out.trans (HB9.out.mono HB0.out.size)))
      clear hb9
      refine (read_bad _ _ _ (L ++ List.replicate 1501 0) E w9 (hO9.out.row8 (app_wf HLL.out HW.out)) (HS9.out.sub four14) (by rw [HRL.out _ (by omega)]; decide)).mono ?_
      rintro e w10 ⟨rfl, hB⟩
      rw [HRL.out _ (by omega)]
      have HB10 := Lib.hid (HB9.out.trans (hB.mono HB9.out.size))
      clear hB
      go_wp2_with (refine wpList_store_row rfl 26 (.tmp 16) (.tmp 67) rfl w10.heap.size Go.Proofs.YtogcpommidfmnaaDoor.q0.cells rfl rfl 26 Go.Proofs.YtogcpommidfmnaaDoor.q0.cells (heap_alloc_last _ _) size26 rfl (Qf.oneCell _) ?_; rw [World.setRow_alloc_new])
      have HB11 := Lib.hid (HB10.out.alloc HB10.out.size (.cells Go.Proofs.YtogcpommidfmnaaDoor.q0.cells 26))
      have HS11 := Lib.hid (HS.out.below (HB0.out.trans (HB11.out.mono HB0.out.size)))
      generalize World.alloc w10 _ = w11 at *
      refine (is_err E 102 102 w11 HS11.out (by decide)).mono ?_
      rintro e w12 ⟨rfl, hB⟩
      have HB12 := Lib.hid (HB11.out.trans (hB.mono HB11.out.size))
      have HS12 := Lib.hid (HS.out.below (HB0.out.trans (HB12.out.mono HB0.out.size)))
      clear hB
      go_wp2_with (fail)
      refine (is_err E 101 101 w12 HS12.out (by decide)).mono ?_
      rintro e w13 ⟨rfl, hB⟩
      have HB13 := Lib.hid (HB12.out.trans (hB.mono HB12.out.size))
      have HS13 := Lib.hid (HS.out.below (HB0.out.trans (HB13.out.mono HB0.out.size)))
      clear hB
      go_wp2_with (fail)
      refine (is_err E 103 103 w13 HS13.out (by decide)).mono ?_
      rintro e w14 ⟨rfl, hB⟩
      have HB14 := Lib.hid (HB13.out.trans (hB.mono HB13.out.size))
      clear hB
      go_wp2
      go_ret
      exact ⟨rfl, HB0.out.trans (HB14.out.mono HB0.out.size)⟩
    · have h40 : (bits .andNot .u8 n2 40 != 2) = false := by rw [HF40.out, hff]; rfl
      have hr : rdB L1 (26 + f0.n) = 0 := by rw [HRD.out]; simp [h136, hff]
      have hn1 : (n1 != 136) = false := by simpa using h136
      have HRR := Lib.hid hr
      clear hr h136 hff
      refine (read_good _ _ _ L1 w4 (HO4.out.row8 HW4.out) HO4.out.cap_le HRR.out).mono ?_
      rintro e w5 ⟨g5, cap5, rfl, _, hB⟩
      have HB5 := Lib.hid (HB4.out.trans (hB.mono HB4.out.size))
      have HOb5 := Lib.hid (HOb4.out.below hB HOb4.out.lt.2)
      clear hB
      generalize decQ L1 (some ⟨g5, 0, none⟩) (26 + f0.n - 26) cap5 = p at *
      go_wp2_with (refine wpList_store_row rfl 26 (.tmp 11) (.tmp 50) rfl w5.heap.size p.cells rfl rfl 26 Go.Proofs.YtogcpommidfmnaaDoor.q0.cells (heap_alloc_last _ _) size26 rfl (Qf.oneCell _) ?_; rw [World.setRow_alloc_new])
      have HB6 := Lib.hid (HB5.out.alloc HB5.out.size (.cells p.cells 26))
      have HOb6 := Lib.hid (HOb5.out.below ((Below.refl w5.heap.size w5).alloc (Nat.le_refl _) (.cells p.cells 26)) HOb5.out.lt.2)
      have HS6 := Lib.hid (HS.out.below (HB0.out.trans (HB6.out.mono HB0.out.size)))
      generalize World.alloc w5 _ = w6 at *
      refine (read_end _ 25 _ [] E w6 (by omega) (HS6.out.at_ 101 (by decide))).mono ?_
      rintro e w7 ⟨rfl, hB⟩
      have HB7 := Lib.hid (HB6.out.trans (hB.mono HB6.out.size))
      have HOb7 := Lib.hid (HOb6.out.below hB HOb6.out.lt.2)
      clear hB
      go_wp2_with (first
        | (refine wpList_store_row rfl 26 (.tmp 14) (.tmp 61) rfl w7.heap.size Go.Proofs.YtogcpommidfmnaaDoor.q0.cells rfl rfl 26 Go.Proofs.YtogcpommidfmnaaDoor.q0.cells (heap_alloc_last _ _) size26 rfl (Qf.oneCell _) ?_; rw [World.setRow_alloc_new])
        | (refine app_zeros rfl (.tmp 64) _ rfl w1.heap.size g (26 + f0.n) cap 1501 L rfl (HOb7.out.below ((Below.refl w7.heap.size w7).alloc (Nat.le_refl _) (.cells Go.Proofs.YtogcpommidfmnaaDoor.q0.cells 26)) HOb7.out.lt.2) rfl (by omega) (by omega) (by have := HB7.out.size; have := HB1.out.size; have := HOb7.out.lt; simp; omega) ?_; intro g9 cap9 w9 hO9 hb9))
      have HB9 := Lib.hid ((HB7.out.alloc HB7.out.size (.cells Go.Proofs.YtogcpommidfmnaaDoor.q0.cells 26)).trans (hb9.out.mono HB1.out.size))
      have HS9 := Lib.hid (HS.out.below (HB0.out.trans (HB9.out.mono HB0.out.size)))
      clear hb9
      refine (read_bad _ _ _ (L ++ List.replicate 1501 0) E w9 (hO9.out.row8 (app_wf HLL.out HW.out)) (HS9.out.sub four14) (by rw [HRL.out _ (by omega)]; decide)).mono ?_
      rintro e w10 ⟨rfl, hB⟩
      rw [HRL.out _ (by omega)]
      have HB10 := Lib.hid (HB9.out.trans (hB.mono HB9.out.size))
      clear hB
      go_wp2_with (refine wpList_store_row rfl 26 (.tmp 16) (.tmp 67) rfl w10.heap.size Go.Proofs.YtogcpommidfmnaaDoor.q0.cells rfl rfl 26 Go.Proofs.YtogcpommidfmnaaDoor.q0.cells (heap_alloc_last _ _) size26 rfl (Qf.oneCell _) ?_; rw [World.setRow_alloc_new])
      have HB11 := Lib.hid (HB10.out.alloc HB10.out.size (.cells Go.Proofs.YtogcpommidfmnaaDoor.q0.cells 26))
      have HS11 := Lib.hid (HS.out.below (HB0.out.trans (HB11.out.mono HB0.out.size)))
      generalize World.alloc w10 _ = w11 at *
      refine (is_nil 0 w11).mono ?_
      rintro e w12 ⟨rfl, hB⟩
      have HB12 := Lib.hid (HB11.out.trans (hB.mono HB11.out.size))
      have HS12 := Lib.hid (HS.out.below (HB0.out.trans (HB12.out.mono HB0.out.size)))
      clear hB
      go_wp2_with (fail)
      refine (is_err E 101 101 w12 HS12.out (by decide)).mono ?_
      rintro e w13 ⟨rfl, hB⟩
      have HB13 := Lib.hid (HB12.out.trans (hB.mono HB12.out.size))
      have HS13 := Lib.hid (HS.out.below (HB0.out.trans (HB13.out.mono HB0.out.size)))
      clear hB
      go_wp2_with (fail)
      refine (is_err E 103 103 w13 HS13.out (by decide)).mono ?_
      rintro e w14 ⟨rfl, hB⟩
      have HB14 := Lib.hid (HB13.out.trans (hB.mono HB13.out.size))
      clear hB
      go_wp2
      go_ret
      exact ⟨rfl, HB0.out.trans (HB14.out.mono HB0.out.size)⟩
  · cases hff : ffB n2
    · have h40 : (bits .andNot .u8 n2 40 != 2) = true := by rw [HF40.out, hff]; rfl
      have hr : rdB L1 (26 + f0.n) = 105 := by rw [HRD.out]; simp [h136, hff]
      have hn1 : (n1 != 136) = true := by simpa using h136
      have HRR := Lib.hid hr
      have h136' := Lib.hid h136
      have hff' := Lib.hid hff
      clear hr h136 hff
      refine (read_bad _ _ _ L1 E w4 (HO4.out.row8 HW4.out) (HS4.out.sub four14) (by rw [HRR.out]; decide)).mono ?_
      rintro e w5 ⟨rfl, hB⟩
      rw [HRR.out]
      have HB5 := Lib.hid (HB4.out.trans (hB.mono HB4.out.size))
      have HOb5 := Lib.hid (HOb4.out.below hB HOb4.out.lt.2)
      clear hB
      go_wp2_with (refine wpList_store_row rfl 26 (.tmp 11) (.tmp 50) rfl w5.heap.size Go.Proofs.YtogcpommidfmnaaDoor.q0.cells rfl rfl 26 Go.Proofs.YtogcpommidfmnaaDoor.q0.cells (heap_alloc_last _ _) size26 rfl (Qf.oneCell _) ?_; rw [World.setRow_alloc_new])
      have HB6 := Lib.hid (HB5.out.alloc HB5.out.size (.cells Go.Proofs.YtogcpommidfmnaaDoor.q0.cells 26))
      have HOb6 := Lib.hid (HOb5.out.below ((Below.refl w5.heap.size w5).alloc (Nat.le_refl _) (.cells Go.Proofs.YtogcpommidfmnaaDoor.q0.cells 26)) HOb5.out.lt.2)
      have HS6 := Lib.hid (HS.out.below (HB0.out.trans (HB6.out.mono HB0.out.size)))
      generalize World.alloc w5 _ = w6 at *
      refine (read_end _ 25 _ [] E w6 (by omega) (HS6.out.at_ 101 (by decide))).mono ?_
      rintro e w7 ⟨rfl, hB⟩
      have HB7 := Lib.hid (HB6.out.trans (hB.mono HB6.out.size))
      have HOb7 := Lib.hid (HOb6.out.below hB HOb6.out.lt.2)
      clear hB
      go_wp2_with (first
        | (refine wpList_store_row rfl 26 (.tmp 14) (.tmp 61) rfl w7.heap.size Go.Proofs.YtogcpommidfmnaaDoor.q0.cells rfl rfl 26 Go.Proofs.YtogcpommidfmnaaDoor.q0.cells (heap_alloc_last _ _) size26 rfl (Qf.oneCell _) ?_; rw [World.setRow_alloc_new])
        | (refine app_zeros rfl (.tmp 64) _ rfl w1.heap.size g (26 + f0.n) cap 1501 L rfl (HOb7.out.below ((Below.refl w7.heap.size w7).alloc (Nat.le_refl _) (.cells Go.Proofs.YtogcpommidfmnaaDoor.q0.cells 26)) HOb7.out.lt.2) rfl (by omega) (by omega) (by have := HB7.out.size; have := HB1.out.size; have := HOb7.out.lt; simp; omega) ?_; intro g9 cap9 w9 hO9 hb9))
      have HB9 := Lib.hid ((HB7.out.alloc HB7.out.size (.cells Go.Proofs.YtogcpommidfmnaaDoor.q0.cells 26)).trans (hb9.out.mono HB1.out.size))
      have HS9 := Lib.hid (HS.out.below (HB0.out.trans (HB9.out.mono HB0.out.size)))
      clear hb9
      refine (read_bad _ _ _ (L ++ List.replicate 1501 0) E w9 (hO9.out.row8 (app_wf HLL.out HW.out)) (HS9.out.sub four14) (by rw [HRL.out _ (by omega)]; decide)).mono ?_
      rintro e w10 ⟨rfl, hB⟩
      rw [HRL.out _ (by omega)]
      have HB10 := Lib.hid (HB9.out.trans (hB.mono HB9.out.size))
      clear hB
      go_wp2_with (refine wpList_store_row rfl 26 (.tmp 16) (.tmp 67) rfl w10.heap.size Go.Proofs.YtogcpommidfmnaaDoor.q0.cells rfl rfl 26 Go.Proofs.YtogcpommidfmnaaDoor.q0.cells (heap_alloc_last _ _) size26 rfl (Qf.oneCell _) ?_; rw [World.setRow_alloc_new])
      have HB11 := Lib.hid (HB10.out.alloc HB10.out.size (.cells Go.Proofs.YtogcpommidfmnaaDoor.q0.cells 26))
      have HS11 := Lib.hid (HS.out.below (HB0.out.trans (HB11.out.mono HB0.out.size)))
      generalize World.alloc w10 _ = w11 at *
      refine (is_err E 105 105 w11 HS11.out (by decide)).mono ?_
      rintro e w12 ⟨rfl, hB⟩
      have HB12 := Lib.hid (HB11.out.trans (hB.mono HB11.out.size))
      have HS12 := Lib.hid (HS.out.below (HB0.out.trans (HB12.out.mono HB0.out.size)))
      clear hB
      go_wp2_with (fail)
      refine (is_err E 101 101 w12 HS12.out (by decide)).mono ?_
      rintro e w13 ⟨rfl, hB⟩
      have HB13 := Lib.hid (HB12.out.trans (hB.mono HB12.out.size))
      have HS13 := Lib.hid (HS.out.below (HB0.out.trans (HB13.out.mono HB0.out.size)))
      clear hB
      go_wp2_with (fail)
      refine (is_err E 103 103 w13 HS13.out (by decide)).mono ?_
      rintro e w14 ⟨rfl, hB⟩
      have HB14 := Lib.hid (HB13.out.trans (hB.mono HB13.out.size))
      clear hB
      go_wp2
      go_ret
      exact ⟨rfl, HB0.out.trans (HB14.out.mono HB0.out.size)⟩
    · have h40 : (bits .andNot .u8 n2 40 != 2) = false := by rw [HF40.out, hff]; rfl
      have hr : rdB L1 (26 + f0.n) = 105 := by rw [HRD.out]; simp [h136, hff]
      have hn1 : (n1 != 136) = true := by simpa using h136
      have HRR := Lib.hid hr
      have h136' := Lib.hid h136
      have hff' := Lib.hid hff
      clear hr h136 hff
      refine (read_bad _ _ _ L1 E w4 (HO4.out.row8 HW4.out) (HS4.out.sub four14) (by rw [HRR.out]; decide)).mono ?_
      rintro e w5 ⟨rfl, hB⟩
      rw [HRR.out]
      have HB5 := Lib.hid (HB4.out.trans (hB.mono HB4.out.size))
      have HOb5 := Lib.hid (HOb4.out.below hB HOb4.out.lt.2)
      clear hB
      go_wp2_with (refine wpList_store_row rfl 26 (.tmp 11) (.tmp 50) rfl w5.heap.size Go.Proofs.YtogcpommidfmnaaDoor.q0.cells rfl rfl 26 Go.Proofs.YtogcpommidfmnaaDoor.q0.cells (heap_alloc_last _ _) size26 rfl (Qf.oneCell _) ?_; rw [World.setRow_alloc_new])
      have HB6 := Lib.hid (HB5.out.alloc HB5.out.size (.cells Go.Proofs.YtogcpommidfmnaaDoor.q0.cells 26))
      have HOb6 := Lib.hid (HOb5.out.below ((Below.refl w5.heap.size w5).alloc (Nat.le_refl _) (.cells Go.Proofs.YtogcpommidfmnaaDoor.q0.cells 26)) HOb5.out.lt.2)
      have HS6 := Lib.hid (HS.out.below (HB0.out.trans (HB6.out.mono HB0.out.size)))
      generalize World.alloc w5 _ = w6 at *
      refine (read_end _ 25 _ [] E w6 (by omega) (HS6.out.at_ 101 (by decide))).mono ?_
      rintro e w7 ⟨rfl, hB⟩
      have HB7 := Lib.hid (HB6.out.trans (hB.mono HB6.out.size))
      have HOb7 := Lib.hid (HOb6.out.below hB HOb6.out.lt.2)
      clear hB
      go_wp2_with (first
        | (refine wpList_store_row rfl 26 (.tmp 14) (.tmp 61) rfl w7.heap.size Go.Proofs.YtogcpommidfmnaaDoor.q0.cells rfl rfl 26 Go.Proofs.YtogcpommidfmnaaDoor.q0.cells (heap_alloc_last _ _) size26 rfl (Qf.oneCell _) ?_; rw [World.setRow_alloc_new])
        | (refine app_zeros rfl (.tmp 64) _ rfl w1.heap.size g (26 + f0.n) cap 1501 L rfl (HOb7.out.below ((Below.refl w7.heap.size w7).alloc (Nat.le_refl _) (.cells Go.Proofs.YtogcpommidfmnaaDoor.q0.cells 26)) HOb7.out.lt.2) rfl (by omega) (by omega) (by have := HB7.out.size; have := HB1.out.size; have := HOb7.out.lt; simp; omega) ?_; intro g9 cap9 w9 hO9 hb9))
      have HB9 := Lib.hid ((HB7.out.alloc HB7.out.size (.cells Go.Proofs.YtogcpommidfmnaaDoor.q0.cells 26)).trans (hb9.out.mono HB1.out.size))
      have HS9 := Lib.hid (HS.out.below (HB0.out.trans (HB9.out.mono HB0.out.size)))
      clear hb9
      refine (read_bad _ _ _ (L ++ List.replicate 1501 0) E w9 (hO9.out.row8 (app_wf HLL.out HW.out)) (HS9.out.sub four14) (by rw [HRL.out _ (by omega)]; decide)).mono ?_
      rintro e w10 ⟨rfl, hB⟩
      rw [HRL.out _ (by omega)]
      have HB10 := Lib.hid (HB9.out.trans (hB.mono HB9.out.size))
      clear hB
      go_wp2_with (refine wpList_store_row rfl 26 (.tmp 16) (.tmp 67) rfl w10.heap.size Go.Proofs.YtogcpommidfmnaaDoor.q0.cells rfl rfl 26 Go.Proofs.YtogcpommidfmnaaDoor.q0.cells (heap_alloc_last _ _) size26 rfl (Qf.oneCell _) ?_; rw [World.setRow_alloc_new])
      have HB11 := Lib.hid (HB10.out.alloc HB10.out.size (.cells Go.Proofs.YtogcpommidfmnaaDoor.q0.cells 26))
      have HS11 := Lib.hid (HS.out.below (HB0.out.trans (HB11.out.mono HB0.out.size)))
      generalize World.alloc w10 _ = w11 at *
      refine (is_err E 105 105 w11 HS11.out (by decide)).mono ?_
      rintro e w12 ⟨rfl, hB⟩
      have HB12 := Lib.hid (HB11.out.trans (hB.mono HB11.out.size))
      have HS12 := Lib.hid (HS.out.below (HB0.out.trans (HB12.out.mono HB0.out.size)))
      clear hB
      go_wp2_with (fail)
      refine (is_err E 101 101 w12 HS12.out (by decide)).mono ?_
      rintro e w13 ⟨rfl, hB⟩
      have HB13 := Lib.hid (HB12.out.trans (hB.mono HB12.out.size))
      have HS13 := Lib.hid (HS.out.below (HB0.out.trans (HB13.out.mono HB0.out.size)))
      clear hB
      go_wp2_with (fail)
      refine (is_err E 103 103 w13 HS13.out (by decide)).mono ?_
      rintro e w14 ⟨rfl, hB⟩
      have HB14 := Lib.hid (HB13.out.trans (hB.mono HB13.out.size))
      clear hB
      go_wp2
      go_ret
      exact ⟨rfl, HB0.out.trans (HB14.out.mono HB0.out.size)⟩

end Go.Proofs.YtogcpommidfmnaaDoor.qosKinds
