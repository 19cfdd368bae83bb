/-
  The walk of muezzin/muezzinlaw3.QosBack: the Go text returns true.
-/
import Derived.Test.YtogcpommidfmnaaDoorQosF
import Derived.Test.YtogcpommidfmnaaDoorOpen
import Derived.Test.YtogcpommidfmnaaDoorErr
import Derived.WalkKit
import Derived.ProofKit
import Derived.Below
namespace Go.Proofs.YtogcpommidfmnaaDoor.qosBack
open Go.ChangeShapes Go.WideShapes Go.ChangeAt Go.RowKit Go.Joins
set_option linter.unusedVariables false
set_option linter.unusedSimpArgs false

theorem rd_enc (q : Qf) (xs : List Int) (n : Nat) (h0 : 0 ≤ q.tid) (h1 : q.tid < 8) (h2 : 0 ≤ q.seq) (hn : 26 ≤ n) (hn2 : n ≤ 1526) : rdB (encQ q xs) n = 0 := by
  have e0 : (encQ q xs).getD 0 0 = 136 := rfl
  unfold rdB
  rw [if_neg (by omega), e0, hf_enc q _ h0 h1 h2, if_neg (by simp), if_neg (by simp), if_neg (show ¬ 1526 < n by omega)]

/-! ### THE WALK -/
set_option maxRecDepth 100000 in
set_option maxHeartbeats 8000000 in
theorem walk (f0 : Qf) (z0 : List Int) (a1 : Option Addr) (len1 cap1 : Nat) (z1 : List Int) (n2 : Int) (w : World) (E : Nat → Addr) (hS : Sent w E [101, 102, 103, 104, 105, 106, 107, 108, 109, 110, 111, 112, 113, 114]) (w0 : IsQf w f0 z0) (w1 : IsRow .u8 w a1 len1 cap1 z1) (w2 : (Lit.int .i64 n2).wf = true) :
    Calls Tryd.prog 5 #[f0.val, .slice a1 len1 cap1, .int .i64 n2] w fun e w' => e = .returned (.bool true) ∧ Below w.heap.size w w' := by
  have HX := Lib.hid (RowB.of_row w0.row)
  have HN := Lib.hid w0.nil
  have HWt := Lib.hid (And.intro w0.t (And.intro w0.b w0.f))
  have HS := Lib.hid hS
  have HLC := Lib.hid w0.row.len_cap.1
  generalize z0.take f0.n = xs at HX
  clear w0 hS
  have HB0 := Lib.hid ((Below.refl w.heap.size w).alloc (Nat.le_refl _) (.cells f0.cells 26))
  have HZ0 := Lib.hid (show w.heap.size < (w.alloc (.cells f0.cells 26)).heap.size by simp)
  have HG0 := Lib.hid (heap_alloc_last w (.cells f0.cells 26))
  have HY := Lib.hid (RowB.of_row w1)
  have HLD := Lib.hid w1.len_cap.1
  generalize z1.take len1 = ys at HY
  have W2 := Lib.hid w2
  clear w1 w2
  by_cases h60 : (200 : Int) < (f0.n : Int)
  · go_enter Tryd.func5, Tryd.ntmps5
    go_wp2_with (fail)
    refine (first_any _).mono ?_
    rintro e w1 ⟨rfl, hB⟩
    have HB1 := Lib.hid hB
    have c23 := q_at hB HZ0.out 23
    dsimp only [Qf.cells] at c23
    clear hB
    go_wp2
    go_ret
    exact ⟨rfl, HB0.out.trans (HB1.out.mono HB0.out.size)⟩
  have hd60 : decide ((200 : Int) < (f0.n : Int)) = false := by simpa using h60
  have h60' : f0.n ≤ 200 := by omega
  clear h60
  by_cases h61 : (200 : Int) < (len1 : Int)
  · go_enter Tryd.func5, Tryd.ntmps5
    go_wp2_with (fail)
    refine (first_any _).mono ?_
    rintro e w1 ⟨rfl, hB⟩
    have HB1 := Lib.hid hB
    have c23 := q_at hB HZ0.out 23
    dsimp only [Qf.cells] at c23
    clear hB
    go_wp2
    go_ret
    exact ⟨rfl, HB0.out.trans (HB1.out.mono HB0.out.size)⟩
  have hd61 : decide ((200 : Int) < (len1 : Int)) = false := by simpa using h61
  have h61' : len1 ≤ 200 := by omega
  clear h61
  go_enter Tryd.func5, Tryd.ntmps5
  go_wp2_with (fail)
  refine (first_any _).mono ?_
  rintro e w1 ⟨rfl, hB⟩
  have HB1 := Lib.hid hB
  have c23 := q_at hB HZ0.out 23
  dsimp only [Qf.cells] at c23
  clear hB
  go_wp2_with (fail)
  clear hd60 hd61 c23
  have HG1 := Lib.hid ((HB1.out.block _ HZ0.out).trans HG0.out)
  have HS1 := Lib.hid (HS.out.below (HB0.out.trans (HB1.out.mono HB0.out.size)))
  have HX1 := Lib.hid (HX.out.below (HB0.out.trans (HB1.out.mono HB0.out.size)))
  have HY1 := Lib.hid (HY.out.below (HB0.out.trans (HB1.out.mono HB0.out.size)))
  by_cases hr : rdB ys len1 = 0
  · obtain ⟨h1, h2, h3, h4⟩ := rd_fine hr
    have HED := Lib.hid (fun A n c => enc_dec ys (by rw [HY.out.len]; omega) (fun i hi => HY.out.wf8 i (by omega)) h3 h4 A n c)
    refine (read_good _ _ _ ys w1 HY1.out HLD.out hr).mono ?_
    rintro e w2 ⟨g2, cap2, rfl, hO, hB⟩
    have HB2 := Lib.hid (HB1.out.trans (hB.mono HB1.out.size))
    have HR2 := Lib.hid (hO.row8 (fun i hi => by rw [show (ys.drop 26).getD i 0 = ys.getD (26 + i) 0 by simp [List.getD]]; exact HY.out.wf8 _ (by omega)))
    have HE2 := Lib.hid ((HED.out (some ⟨g2, 0, none⟩) (len1 - 26) cap2).1)
    have HOK := Lib.hid ((HED.out (some ⟨g2, 0, none⟩) (len1 - 26) cap2).2 (by omega))
    have HPA2 := Lib.hid (show (decQ ys (some ⟨g2, 0, none⟩) (len1 - 26) cap2).A = some ⟨g2, 0, none⟩ ∧ (decQ ys (some ⟨g2, 0, none⟩) (len1 - 26) cap2).n = len1 - 26 from ⟨rfl, rfl⟩)
    generalize decQ ys (some ⟨g2, 0, none⟩) (len1 - 26) cap2 = p2 at *
    clear hO hB hr h2 h3 h4
    have HB3 := Lib.hid (HB2.out.alloc HB2.out.size (.cells p2.cells 26))
    have HR3 := Lib.hid (HR2.out.below ((Below.refl w2.heap.size w2).alloc (Nat.le_refl _) (.cells p2.cells 26)))
    have HP3 := Lib.hid (heap_alloc_last w2 (.cells p2.cells 26))
    have HY3 := Lib.hid (HY.out.below (HB0.out.trans (HB3.out.mono HB0.out.size)))
    go_wp2_with (first
      | (refine wpList_store_row rfl 26 (.tmp 8) (.tmp 34) rfl w2.heap.size p2.cells rfl rfl 26 Go.Proofs.YtogcpommidfmnaaDoor.q0.cells (heap_alloc_last _ _) size26 rfl (Qf.oneCell _) ?_; rw [World.setRow_alloc_new])
      | (refine wpList_load_row rfl 26 (.tmp 8) rfl w2.heap.size rfl 26 p2.cells (0, 0) _ HP3.out Tryd.underlying26 rfl size26 ?_))
    generalize World.alloc w2 _ = w3 at *
    refine (bytes_yes p2 (ys.drop 26) w3 HOK.out (by rw [HPA2.out.1, HPA2.out.2]; exact HR3.out) (by intro h; rw [HPA2.out.1] at h; cases h)).mono ?_
    rintro e w4 ⟨g4, cap4, rfl, hO, hB⟩
    rw [HE2.out] at hO
    rw [show 26 + p2.n = len1 by rw [HPA2.out.2]; omega] at hO ⊢
    have HB4 := Lib.hid (HB3.out.trans (hB.mono HB3.out.size))
    have HR4 := Lib.hid (hO.row8 HY.out.wf8)
    have HY4 := Lib.hid (HY3.out.below hB)
    have HSB := Lib.hid (show sameB ys ys = true by simp [sameB])
    clear hO hB
    go_wp2_with (fail)
    refine (same_any _ _ _ _ _ _ _ _ _ HR4.out HY4.out).mono ?_
    rintro e w5 ⟨rfl, nd, rfl⟩
    rw [HSB.out]
    have HB5 := Lib.hid (below_drewN HB4.out nd)
    generalize World.drewN w4 _ = w5 at *
    have HG5 := Lib.hid ((HB5.out.block _ HZ0.out).trans HG0.out)
    have HS5 := Lib.hid (HS.out.below (HB0.out.trans (HB5.out.mono HB0.out.size)))
    have HX5 := Lib.hid (HX.out.below (HB0.out.trans (HB5.out.mono HB0.out.size)))
    go_wp2_with (refine wpList_load_row rfl 26 (.tmp 3) rfl w.heap.size rfl 26 f0.cells (0, 0) _ HG5.out Tryd.underlying26 rfl size26 ?_)
    by_cases hok : f0.okB = true
    case neg =>
      refine (bytes_no f0 E w5 (by simpa using hok) (HS5.out.at_ 103 (by decide))).mono ?_
      rintro e w8 ⟨rfl, hB⟩
      have HB8 := Lib.hid (HB5.out.trans (hB.mono HB5.out.size))
      clear hB
      go_wp2
      go_ret
      exact ⟨rfl, HB0.out.trans (HB8.out.mono HB0.out.size)⟩
    have HK := Lib.hid (f0.ok_iff.1 hok)
    refine (bytes_yes f0 xs w5 hok HX5.out HN.out).mono ?_
    rintro e w8 ⟨g8, cap8, rfl, hO, hB⟩
    have HLX := Lib.hid (show 26 + xs.length = 26 + f0.n by rw [HX.out.len])
    have HLL := Lib.hid ((enc_len f0 xs).trans HLX.out)
    have HW := Lib.hid (show ∀ i, i < 26 + f0.n → 0 ≤ (encQ f0 xs).getD i 0 ∧ (encQ f0 xs).getD i 0 ≤ 255 from fun i hi => enc_wf f0 xs hok HWt.out.1 HWt.out.2.1 HWt.out.2.2 (fun i hi => HX.out.wf8 i (by rw [← HX.out.len]; exact hi)) i (by rw [HLX.out]; exact hi))
    have HRD := Lib.hid (show rdB (encQ f0 xs) (26 + f0.n) = 0 from rd_enc f0 xs _ HK.out.1 HK.out.2.1 HK.out.2.2.1 (by omega) (by omega))
    have HDE := Lib.hid (fun A n c => dec_enc f0 xs HK.out.1 HK.out.2.1 HK.out.2.2.1 HK.out.2.2.2.1 A n c)
    have HDR := Lib.hid (enc_drop f0 xs)
    obtain ⟨L, hL⟩ : ∃ L, L = encQ f0 xs := ⟨_, rfl⟩
    rw [← hL] at hO HLL HW HRD HDE HDR
    have HO8 := Lib.hid hO
    have HB8 := Lib.hid (HB5.out.trans (hB.mono HB5.out.size))
    clear hok hL hO hB
    go_wp2_with (fail)
    refine (read_good _ _ _ L w8 (HO8.out.row8 HW.out) HO8.out.cap_le HRD.out).mono ?_
    rintro e w9 ⟨g9, cap9, rfl, hO, hB⟩
    rw [HDR.out] at hO
    rw [HDE.out]
    have HO8b := Lib.hid (HO8.out.below hB HO8.out.lt.2)
    have HB9 := Lib.hid (HB8.out.trans (hB.mono HB8.out.size))
    have HR9 := Lib.hid (hO.row8 (fun i hi => HX.out.wf8 i (by omega)))
    generalize hp : (⟨f0.t, f0.b, f0.f, f0.tid, f0.seq, f0.r, f0.m, f0.e, some ⟨g9, 0, none⟩, 26 + f0.n - 26, cap9⟩ : Qf) = p at *
    have HP := Lib.hid hp
    have HSQ := Lib.hid (show sameQ p f0 xs xs = true by rw [← hp]; exact same_refl f0 xs _ _ _)
    have HPA := Lib.hid (show p.A = some ⟨g9, 0, none⟩ ∧ p.n = 26 + f0.n - 26 by rw [← hp]; exact ⟨rfl, rfl⟩)
    clear hO hB hp
    have HB10 := Lib.hid (HB9.out.alloc HB9.out.size (.cells p.cells 26))
    have HO10 := Lib.hid (HO8b.out.below ((Below.refl w9.heap.size w9).alloc (Nat.le_refl _) (.cells p.cells 26)) HO8b.out.lt.2)
    have HR10 := Lib.hid (HR9.out.below ((Below.refl w9.heap.size w9).alloc (Nat.le_refl _) (.cells p.cells 26)))
    have HP10 := Lib.hid (heap_alloc_last w9 (.cells p.cells 26))
    have HL10 := Lib.hid (show w9.heap.size < (w9.alloc (.cells p.cells 26)).heap.size by simp)
    go_wp2_with (first
      | (refine wpList_store_row rfl 26 (.tmp 14) (.tmp 67) rfl w9.heap.size p.cells rfl rfl 26 Go.Proofs.YtogcpommidfmnaaDoor.q0.cells (heap_alloc_last _ _) size26 rfl (Qf.oneCell _) ?_; rw [World.setRow_alloc_new])
      | (go_at_call 19; refine (number_any _ _ _ W2.out (by omega) (by omega)).mono ?_; rintro e w' ⟨rfl, rfl⟩; have k0 := nmod_lo n2 26 (by omega); have k1 := nmod_hi n2 26 (by omega); have k2 : nmod n2 26 ≤ (cap8 : Int) := (by have := HO8.out.cap_le; omega)))
    generalize World.alloc w9 _ = w10 at *
    generalize w9.heap.size = g10 at *
    generalize nmod n2 26 = kk at *
    have HS10 := Lib.hid (HS.out.below (HB0.out.trans (HB10.out.mono HB0.out.size)))
    refine (read_end _ _ _ [] E w10 (by omega) (HS10.out.at_ 101 (by decide))).mono ?_
    rintro e w11 ⟨rfl, hB⟩
    have HB11 := Lib.hid (HB10.out.trans (hB.mono HB10.out.size))
    have HP11 := Lib.hid ((hB.block _ HL10.out).trans HP10.out)
    have HR11 := Lib.hid (HR10.out.below hB)
    have HB12 := Lib.hid (HB11.out.alloc HB11.out.size (.cells Go.Proofs.YtogcpommidfmnaaDoor.q0.cells 26))
    have HP12 := Lib.hid ((Below.heap_alloc w11 (.cells Go.Proofs.YtogcpommidfmnaaDoor.q0.cells 26) _ (Nat.lt_of_lt_of_le HL10.out hB.size)).trans HP11.out)
    have HR12 := Lib.hid (HR11.out.below ((Below.refl w11.heap.size w11).alloc (Nat.le_refl _) (.cells Go.Proofs.YtogcpommidfmnaaDoor.q0.cells 26)))
    have HG12 := Lib.hid ((HB12.out.block _ HZ0.out).trans HG0.out)
    have HS12 := Lib.hid (HS.out.below (HB0.out.trans (HB12.out.mono HB0.out.size)))
    have HX12 := Lib.hid (HX.out.below (HB0.out.trans (HB12.out.mono HB0.out.size)))
    clear hB
    go_wp2_with (first
      | (refine wpList_store_row rfl 26 (.tmp 16) (.tmp 75) rfl w11.heap.size Go.Proofs.YtogcpommidfmnaaDoor.q0.cells rfl rfl 26 Go.Proofs.YtogcpommidfmnaaDoor.q0.cells (heap_alloc_last _ _) size26 rfl (Qf.oneCell _) ?_; rw [World.setRow_alloc_new])
      | (refine wpList_load_if (by rfl) 26 (.tmp 14) rfl g10 rfl 26 p.cells (0, 0) _ HP12.out Tryd.underlying26 rfl size26 ?_)
      | (refine wpList_load_if (by rfl) 26 (.tmp 3) rfl w.heap.size rfl 26 f0.cells (0, 0) _ HG12.out Tryd.underlying26 rfl size26 ?_))
    generalize World.alloc w11 _ = w12 at *
    refine (sameQ_any p f0 xs xs _ (by rw [HPA.out.1, HPA.out.2]; exact (by have := HR12.out; rwa [show 26 + f0.n - 26 = f0.n by omega] at this ⊢)) HX12.out).mono ?_
    rintro e w13 ⟨rfl, hB⟩
    rw [HSQ.out]
    have HB13 := Lib.hid (HB12.out.trans (hB.mono HB12.out.size))
    have HS13 := Lib.hid (HS.out.below (HB0.out.trans (HB13.out.mono HB0.out.size)))
    clear hB
    go_wp2_with (fail)
    refine (is_err E 101 101 w13 HS13.out (by decide)).mono ?_
    rintro e w14 ⟨rfl, hB⟩
    have HB14 := Lib.hid (HB13.out.trans (hB.mono HB13.out.size))
    have c23 := q_at HB14.out HZ0.out 23
    dsimp only [Qf.cells] at c23
    clear hB
    go_wp2_with (fail)
    refine (len_any (f0.n : Int) _ (by omega) (by omega)).mono ?_
    rintro e w15 ⟨rfl, rfl⟩
    rw [show (26 + max (f0.n : Int) 0) = 26 + (f0.n : Int) by omega]
    go_wp2
    go_ret
    exact ⟨rfl, HB0.out.trans (HB14.out.mono HB0.out.size)⟩
  · have HC := Lib.hid (rd_14 hr)
    refine (read_bad _ _ _ ys E w1 HY1.out (HS1.out.sub four14) hr).mono ?_
    rintro e w2 ⟨rfl, hB⟩
    have HB2 := Lib.hid (HB1.out.trans (hB.mono HB1.out.size))
    have HB3 := Lib.hid (HB2.out.alloc HB2.out.size (.cells Go.Proofs.YtogcpommidfmnaaDoor.q0.cells 26))
    clear hB hr
    have HG3 := Lib.hid ((HB3.out.block _ HZ0.out).trans HG0.out)
    have HS3 := Lib.hid (HS.out.below (HB0.out.trans (HB3.out.mono HB0.out.size)))
    have HX3 := Lib.hid (HX.out.below (HB0.out.trans (HB3.out.mono HB0.out.size)))
    go_wp2_with (first
      | (refine wpList_store_row rfl 26 (.tmp 8) (.tmp 34) rfl w2.heap.size Go.Proofs.YtogcpommidfmnaaDoor.q0.cells rfl rfl 26 Go.Proofs.YtogcpommidfmnaaDoor.q0.cells (heap_alloc_last _ _) size26 rfl (Qf.oneCell _) ?_; rw [World.setRow_alloc_new])
      | (refine wpList_load_row rfl 26 (.tmp 3) rfl w.heap.size rfl 26 f0.cells (0, 0) _ HG3.out Tryd.underlying26 rfl size26 ?_))
    generalize World.alloc w2 _ = w3 at *
    by_cases hok : f0.okB = true
    case neg =>
      refine (bytes_no f0 E w3 (by simpa using hok) (HS3.out.at_ 103 (by decide))).mono ?_
      rintro e w8 ⟨rfl, hB⟩
      have HB8 := Lib.hid (HB3.out.trans (hB.mono HB3.out.size))
      clear hB
      go_wp2
      go_ret
      exact ⟨rfl, HB0.out.trans (HB8.out.mono HB0.out.size)⟩
    have HK := Lib.hid (f0.ok_iff.1 hok)
    refine (bytes_yes f0 xs w3 hok HX3.out HN.out).mono ?_
    rintro e w8 ⟨g8, cap8, rfl, hO, hB⟩
    have HLX := Lib.hid (show 26 + xs.length = 26 + f0.n by rw [HX.out.len])
    have HLL := Lib.hid ((enc_len f0 xs).trans HLX.out)
    have HW := Lib.hid (show ∀ i, i < 26 + f0.n → 0 ≤ (encQ f0 xs).getD i 0 ∧ (encQ f0 xs).getD i 0 ≤ 255 from fun i hi => enc_wf f0 xs hok HWt.out.1 HWt.out.2.1 HWt.out.2.2 (fun i hi => HX.out.wf8 i (by rw [← HX.out.len]; exact hi)) i (by rw [HLX.out]; exact hi))
    have HRD := Lib.hid (show rdB (encQ f0 xs) (26 + f0.n) = 0 from rd_enc f0 xs _ HK.out.1 HK.out.2.1 HK.out.2.2.1 (by omega) (by omega))
    have HDE := Lib.hid (fun A n c => dec_enc f0 xs HK.out.1 HK.out.2.1 HK.out.2.2.1 HK.out.2.2.2.1 A n c)
    have HDR := Lib.hid (enc_drop f0 xs)
    obtain ⟨L, hL⟩ : ∃ L, L = encQ f0 xs := ⟨_, rfl⟩
    rw [← hL] at hO HLL HW HRD HDE HDR
    have HO8 := Lib.hid hO
    have HB8 := Lib.hid (HB3.out.trans (hB.mono HB3.out.size))
    clear hok hL hO hB
    go_wp2_with (fail)
    refine (read_good _ _ _ L w8 (HO8.out.row8 HW.out) HO8.out.cap_le HRD.out).mono ?_
    rintro e w9 ⟨g9, cap9, rfl, hO, hB⟩
    rw [HDR.out] at hO
    rw [HDE.out]
    have HO8b := Lib.hid (HO8.out.below hB HO8.out.lt.2)
    have HB9 := Lib.hid (HB8.out.trans (hB.mono HB8.out.size))
    have HR9 := Lib.hid (hO.row8 (fun i hi => HX.out.wf8 i (by omega)))
    generalize hp : (⟨f0.t, f0.b, f0.f, f0.tid, f0.seq, f0.r, f0.m, f0.e, some ⟨g9, 0, none⟩, 26 + f0.n - 26, cap9⟩ : Qf) = p at *
    have HP := Lib.hid hp
    have HSQ := Lib.hid (show sameQ p f0 xs xs = true by rw [← hp]; exact same_refl f0 xs _ _ _)
    have HPA := Lib.hid (show p.A = some ⟨g9, 0, none⟩ ∧ p.n = 26 + f0.n - 26 by rw [← hp]; exact ⟨rfl, rfl⟩)
    clear hO hB hp
    have HB10 := Lib.hid (HB9.out.alloc HB9.out.size (.cells p.cells 26))
    have HO10 := Lib.hid (HO8b.out.below ((Below.refl w9.heap.size w9).alloc (Nat.le_refl _) (.cells p.cells 26)) HO8b.out.lt.2)
    have HR10 := Lib.hid (HR9.out.below ((Below.refl w9.heap.size w9).alloc (Nat.le_refl _) (.cells p.cells 26)))
    have HP10 := Lib.hid (heap_alloc_last w9 (.cells p.cells 26))
    have HL10 := Lib.hid (show w9.heap.size < (w9.alloc (.cells p.cells 26)).heap.size by simp)
    go_wp2_with (first
      | (refine wpList_store_row rfl 26 (.tmp 14) (.tmp 67) rfl w9.heap.size p.cells rfl rfl 26 Go.Proofs.YtogcpommidfmnaaDoor.q0.cells (heap_alloc_last _ _) size26 rfl (Qf.oneCell _) ?_; rw [World.setRow_alloc_new])
      | (go_at_call 19; refine (number_any _ _ _ W2.out (by omega) (by omega)).mono ?_; rintro e w' ⟨rfl, rfl⟩; have k0 := nmod_lo n2 26 (by omega); have k1 := nmod_hi n2 26 (by omega); have k2 : nmod n2 26 ≤ (cap8 : Int) := (by have := HO8.out.cap_le; omega)))
    generalize World.alloc w9 _ = w10 at *
    generalize w9.heap.size = g10 at *
    generalize nmod n2 26 = kk at *
    have HS10 := Lib.hid (HS.out.below (HB0.out.trans (HB10.out.mono HB0.out.size)))
    refine (read_end _ _ _ [] E w10 (by omega) (HS10.out.at_ 101 (by decide))).mono ?_
    rintro e w11 ⟨rfl, hB⟩
    have HB11 := Lib.hid (HB10.out.trans (hB.mono HB10.out.size))
    have HP11 := Lib.hid ((hB.block _ HL10.out).trans HP10.out)
    have HR11 := Lib.hid (HR10.out.below hB)
    have HB12 := Lib.hid (HB11.out.alloc HB11.out.size (.cells Go.Proofs.YtogcpommidfmnaaDoor.q0.cells 26))
    have HP12 := Lib.hid ((Below.heap_alloc w11 (.cells Go.Proofs.YtogcpommidfmnaaDoor.q0.cells 26) _ (Nat.lt_of_lt_of_le HL10.out hB.size)).trans HP11.out)
    have HR12 := Lib.hid (HR11.out.below ((Below.refl w11.heap.size w11).alloc (Nat.le_refl _) (.cells Go.Proofs.YtogcpommidfmnaaDoor.q0.cells 26)))
    have HG12 := Lib.hid ((HB12.out.block _ HZ0.out).trans HG0.out)
    have HS12 := Lib.hid (HS.out.below (HB0.out.trans (HB12.out.mono HB0.out.size)))
    have HX12 := Lib.hid (HX.out.below (HB0.out.trans (HB12.out.mono HB0.out.size)))
    clear hB
    go_wp2_with (first
      | (refine wpList_store_row rfl 26 (.tmp 16) (.tmp 75) rfl w11.heap.size Go.Proofs.YtogcpommidfmnaaDoor.q0.cells rfl rfl 26 Go.Proofs.YtogcpommidfmnaaDoor.q0.cells (heap_alloc_last _ _) size26 rfl (Qf.oneCell _) ?_; rw [World.setRow_alloc_new])
      | (refine wpList_load_if (by rfl) 26 (.tmp 14) rfl g10 rfl 26 p.cells (0, 0) _ HP12.out Tryd.underlying26 rfl size26 ?_)
      | (refine wpList_load_if (by rfl) 26 (.tmp 3) rfl w.heap.size rfl 26 f0.cells (0, 0) _ HG12.out Tryd.underlying26 rfl size26 ?_))
    generalize World.alloc w11 _ = w12 at *
    refine (sameQ_any p f0 xs xs _ (by rw [HPA.out.1, HPA.out.2]; exact (by have := HR12.out; rwa [show 26 + f0.n - 26 = f0.n by omega] at this ⊢)) HX12.out).mono ?_
    rintro e w13 ⟨rfl, hB⟩
    rw [HSQ.out]
    have HB13 := Lib.hid (HB12.out.trans (hB.mono HB12.out.size))
    have HS13 := Lib.hid (HS.out.below (HB0.out.trans (HB13.out.mono HB0.out.size)))
    clear hB
    go_wp2_with (fail)
    refine (is_err E 101 101 w13 HS13.out (by decide)).mono ?_
    rintro e w14 ⟨rfl, hB⟩
    have HB14 := Lib.hid (HB13.out.trans (hB.mono HB13.out.size))
    have c23 := q_at HB14.out HZ0.out 23
    dsimp only [Qf.cells] at c23
    clear hB
    go_wp2_with (fail)
    refine (len_any (f0.n : Int) _ (by omega) (by omega)).mono ?_
    rintro e w15 ⟨rfl, rfl⟩
    rw [show (26 + max (f0.n : Int) 0) = 26 + (f0.n : Int) by omega]
    go_wp2
    go_ret
    exact ⟨rfl, HB0.out.trans (HB14.out.mono HB0.out.size)⟩

end Go.Proofs.YtogcpommidfmnaaDoor.qosBack
