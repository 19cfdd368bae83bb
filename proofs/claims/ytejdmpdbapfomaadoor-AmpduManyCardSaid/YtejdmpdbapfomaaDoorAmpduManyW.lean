/-
  The walk of muezzin/muezzinlaw7.AmpduMany: the Go text returns true.
-/
import Derived.Test.YtejdmpdbapfomaaDoorAmpJ
import Derived.Test.YtejdmpdbapfomaaDoorOpenP
import Derived.WalkKit
import Derived.ProofKit
import Derived.Below
namespace Go.Proofs.YtejdmpdbapfomaaDoor.ampduMany
open Go.ChangeShapes Go.WideShapes Go.ChangeAt Go.RowKit Go.Joins Go.Deep
set_option linter.unusedVariables false
set_option linter.unusedSimpArgs false

set_option maxRecDepth 100000 in
set_option maxHeartbeats 8000000 in
theorem walk (n0 : Int) (n1 : Int) (w : World) (E : Nat → Addr) (hS : Sent w E [101, 102, 103, 104, 105, 106, 107, 108, 109, 110, 111, 112, 113, 114]) (w0 : (Lit.int .i64 n0).wf = true) (w1 : (Lit.int .i64 n1).wf = true) :
    Calls Tryd.prog 6 #[.int .i64 n0, .int .i64 n1] w fun e w' => e = .returned (.bool true) ∧ Below w.heap.size w w' := by
  have HS := Lib.hid (show Sent w E S14 from hS)
  clear hS
  have W0 := Lib.hid w0
  have W1 := Lib.hid w1
  clear w0 w1
  obtain ⟨i0, hi0, hz0, hz1, hz2⟩ := info_parts byte_info
  go_enter Tryd.func6, Tryd.ntmps6
  go_wp2_with (fail)
  refine (first_any E w HS.out.five).mono ?_
  rintro e w1 ⟨rfl, hB⟩
  have HB := Lib.hid hB
  clear hB
  go_wp2_with (fail)
  refine (number_any n0 4 w1 W0.out (by omega) (by omega)).mono ?_
  rintro e w' ⟨rfl, rfl⟩
  have k1 := nmod_lo n0 4 (by omega)
  have k2 := nmod_hi n0 4 (by omega)
  generalize nmod n0 4 = x1 at *
  obtain ⟨nn, hnn⟩ : ∃ nn : Nat, x1 + 62 = (nn : Int) := ⟨(x1 + 62).toNat, by omega⟩
  have hnna : 62 ≤ nn := by omega
  have hnnb : nn < 62 + 4 := by omega
  clear k1 k2
  go_wp2_with (fail)
  refine (number_any n1 4 w1 W1.out (by omega) (by omega)).mono ?_
  rintro e w' ⟨rfl, rfl⟩
  have k1 := nmod_lo n1 4 (by omega)
  have k2 := nmod_hi n1 4 (by omega)
  generalize nmod n1 4 = x2 at *
  obtain ⟨ss, hss⟩ : ∃ ss : Nat, x2 + 1018 = (ss : Int) := ⟨(x2 + 1018).toNat, by omega⟩
  have hssa : 1018 ≤ ss := by omega
  have hssb : ss < 1018 + 4 := by omega
  clear k1 k2
  obtain ⟨P, hP⟩ : ∃ P, P = List.replicate ss (0 : Int) := ⟨_, rfl⟩
  have HPZ := Lib.hid hP
  have HPLn := Lib.hid (show P.length = ss by rw [hP]; simp)
  have HPM := Lib.hid (show ∀ v ∈ P, v = 0 from fun v hv => by rw [hP] at hv; exact (List.mem_replicate.1 hv).2)
  have HPW := Lib.hid (show ∀ i, i < ss → 0 ≤ P.getD i 0 ∧ P.getD i 0 ≤ 255 from all_wf HPLn.out (fun v hv => by rw [HPM.out v hv]; decide))
  clear hP
  go_wp2
  go_loopw [6, 7] (fun v i wr => ∃ k : Nat, k ≤ nn ∧ i = .int .i64 k ∧ OwnP wr w.heap.size 23 v k (List.replicate k P) ∧ Below w.heap.size w wr) (fun _ i _ => nn - (intOf i).toNat)
  case atStart => exact ⟨0, by omega, rfl, OwnP.nil _ _ _, HB.out⟩
  case round =>
    obtain ⟨k, hk, rfl, hown, hbel⟩ := hrel
    clear HB
    have HP := Lib.hid hown
    have HB := Lib.hid hbel
    clear hown hbel
    by_cases hlt : k < nn
    case pos =>
      have HS := Lib.hid (show List.replicate k P ++ [P] = List.replicate (k + 1) P from List.replicate_succ'.symm)
      have hd : decide ((k : Int) < (nn : Int)) = true := by simp; omega
      have hd2 : decide (k < nn) = true := by simp; omega
      go_wp2_with (first
        | (at_make; refine wpList_make_full _ rfl _ _ 23 rfl wr.heap.size 5 i0 (.int .u8 0) 1 Tryd.underlying23 hi0 hz0 hz1 _ _ _ _ ss rfl rfl (by omega) (by omega) (by rw [hz2]; omega) (by unfold maxLen; omega) (Nat.le_refl _) ?_; intro w4 hown1 hgrow1; rw [zeros, ← HPZ.out] at hown1; have HE := Lib.hid (ElP.of_own HP.out (show OwnB w4 wr.heap.size 5 .u8 wr.heap.size ss ss P from hown1) HPW.out); have HB4 := Lib.hid (HB.out.grown hgrow1 HB.out.size (by simp)); have HP4 := Lib.hid (HP.out.below ((Below.refl wr.heap.size wr).grown hgrow1 (Nat.le_refl _) (by simp))); clear hown1 hgrow1 HP HB)
        | (refine app_part rfl (.tmp 34) (.tmp 37) rfl w.heap.size k u6 (List.replicate k P) rfl (HP4.out.below ((Below.refl w4.heap.size w4).alloc (Nat.le_refl _) _)) (.slice (some ⟨wr.heap.size, 0, none⟩) ss ss) P (HE.out.keep (fun k _ hk => ((Below.refl w4.heap.size w4).alloc (Nat.le_refl _) _).block k hk)) ⟨w4.heap.size, 0, none⟩ 1 rfl (cell_one_new _ _ _ 0 _ rfl) (by omega) (by have := HB4.out.size; simp; omega) ?_; intro g5 cap5 w5 hP5 hb5; rw [HS.out] at hP5; have HP5 := hP5; have HB5 := Lib.hid ((HB4.out.alloc HB4.out.size _).trans hb5.out); clear hP5 hb5 HP4 HB4 HE))
      go_roundw
      case rel => exact ⟨k + 1, by omega, by go_num, HP5.out, HB5.out⟩
      case measure => simp [intOf]; omega
    have hk' : k = nn := by omega
    subst hk'
    have hd : decide ((k : Int) < (k : Int)) = false := by simp
    obtain ⟨A5, c5, hv5, hrow5, hc5⟩ := HP.out.row (by unfold maxLen; omega)
    subst hv5
    have HR5 := Lib.hid hrow5
    clear hrow5 HP hk hlt
    have HOK := Lib.hid (show ∀ p ∈ List.replicate k P, okP p = true from rep_ok k P (okP_iff.2 (by rw [HPLn.out]; omega)))
    obtain ⟨st, hst⟩ : ∃ st : Nat, (4 + (ss : Int) + 3) / 4 * 4 = (st : Int) := ⟨(4 + ss + 3) / 4 * 4, by omega⟩
    have hst2 : st ≤ 1028 := by omega
    obtain ⟨all, hall⟩ : ∃ all : Nat, ((k : Int) - 1) * (st : Int) + 4 + (ss : Int) = (all : Int) := by
      obtain ⟨m, hm⟩ : ∃ m, k = m + 1 := ⟨k - 1, by omega⟩
      exact ⟨m * st + 4 + ss, by rw [hm]; push_cast; rw [Int.add_sub_cancel]; omega⟩
    have HAL := Lib.hid (show (packB (List.replicate k P)).length = all by
      obtain ⟨m, hm⟩ : ∃ m, k = m + 1 := ⟨k - 1, by omega⟩
      rw [hm, pack_rep_len, unit_len, HPLn.out]
      rw [hm] at hall
      push_cast at hall
      rw [Int.add_sub_cancel] at hall
      have h1 := step_is ss
      have h2 : (4 + ss + pad ss) = st := by rw [← h1]; omega
      rw [h2]
      have h3 : ((m * st + 4 + ss : Nat) : Int) = (all : Int) := by push_cast; exact hall
      exact_mod_cast h3)
    have hwr1 : IntKind.i64.wrap (((k : Int) - 1) * (st : Int)) = ((k : Int) - 1) * (st : Int) := by
      have h1 : ((k : Int) - 1) * (st : Int) = (all : Int) - 4 - (ss : Int) := by omega
      rw [h1]
      have h2 : (all : Int) ≤ 1000000 := by
        have h3 := pack_le (l := List.replicate k P) (fun p hp => (okP_iff.1 (HOK.out p hp)).2)
        rw [HAL.out, List.length_replicate] at h3
        omega
      exact IntWalk.i64_in _ ⟨by omega, by omega⟩
    have hallb : all ≤ 1000000 := by
      have h3 := pack_le (l := List.replicate k P) (fun p hp => (okP_iff.1 (HOK.out p hp)).2)
      rw [HAL.out, List.length_replicate] at h3
      omega
    have HLn := Lib.hid (show (List.replicate k P).length = k by simp)
    have HNN := Lib.hid (show List.replicate k P ≠ [] from fun e => by have := congrArg List.length e; simp at this; omega)
    have HMC := Lib.hid (many_code (l := List.replicate k P) (by
      rw [inR_lens, Bool.and_eq_true]
      exact ⟨by rw [HLn.out]; simp; omega, List.all_eq_true.2 HOK.out⟩))
    rw [HLn.out, HAL.out] at HMC
    generalize List.replicate k P = L at *
    clear HPZ HPLn HPM HPW HOK
    go_wp2_with (fail)
    refine (pack_row A5 k c5 L E wr HR5.out (by omega) (HS.out.below HB.out).five).mono ?_
    rintro e w6 ⟨A6, m6, c6, rfl, hr, -, hB⟩
    have T0 := Lib.hid (HB.out.trans (hB.mono HB.out.size))
    clear HB
    have HB := T0
    clear T0
    clear hB HR5
    have HM6 := Lib.hid hr.len
    clear hr
    obtain ⟨P4, hP4⟩ : ∃ P, P = List.replicate 4096 (0 : Int) := ⟨_, rfl⟩
    obtain ⟨P5, hP5⟩ : ∃ P, P = List.replicate 4095 (0 : Int) := ⟨_, rfl⟩
    have H4Z := Lib.hid hP4
    have H5Z := Lib.hid hP5
    have H4L := Lib.hid (show P4.length = 4096 by rw [hP4]; exact List.length_replicate ..)
    have H5L := Lib.hid (show P5.length = 4095 by rw [hP5]; exact List.length_replicate ..)
    have H4W := Lib.hid (show ∀ i, i < 4096 → 0 ≤ P4.getD i 0 ∧ P4.getD i 0 ≤ 255 from all_wf H4L.out (fun v hv => by rw [hP4] at hv; rw [(List.mem_replicate.1 hv).2]; decide))
    have H5W := Lib.hid (show ∀ i, i < 4095 → 0 ≤ P5.getD i 0 ∧ P5.getD i 0 ≤ 255 from all_wf H5L.out (fun v hv => by rw [hP5] at hv; rw [(List.mem_replicate.1 hv).2]; decide))
    clear hP4 hP5
    have HC0 := Lib.hid (codeP_bad (l := []) (.inl rfl))
    have HC1 := Lib.hid (codeP_bad (l := [[1], []]) (.inr ⟨[], by simp, rfl⟩))
    have HC4 := Lib.hid (codeP_bad (l := [P4]) (.inr ⟨P4, by simp, by rw [Bool.eq_false_iff]; intro e; have := okP_iff.1 e; rw [H4L.out] at this; omega⟩))
    have HC5 := Lib.hid (codeP_is (l := [P5]) (by simp) (by intro p hp; simp at hp; subst hp; exact okP_iff.2 (by rw [H5L.out]; omega)) (by simp) (by simp only [packB, bare_len, H5L.out]; omega))
    clear H4L H5L
    generalize codeP L = cL at *
    cases e1 : decide ((64 : Int) < (k : Int))
    case true =>
      have e1' : decide (64 < k) = true := by simp at e1 ⊢; omega
      have HE := Lib.hid (show cL = 104 by rw [HMC.out]; unfold manyB; rw [e1]; rfl)
      rw [HE.out] at HM6
      rw [HE.out]
      rw [if_neg (by decide)] at HM6
      obtain rfl : m6 = 0 := HM6.out.symm
      rw [errV_pos E (by decide)]
      clear HMC HAL HM6 HLn HNN
      go_wp2_with (fail)
      refine (pack_row none 0 0 [] E w6 RowP.nil (by omega) (HS.out.below HB.out).five).mono ?_
      rintro e w7 ⟨A7, m7, c7, rfl, -, -, hB⟩
      rw [HC0.out, errV_pos E (show 103 ≠ 0 by decide)]
      have T0 := Lib.hid (HB.out.trans (hB.mono HB.out.size))
      clear HB
      have HB := T0
      clear T0
      clear hB
      have HB8 := Lib.hid (HB.out.alloc HB.out.size (.cells #[.int .u8 1] 5))
      have HB9 := Lib.hid (HB8.out.alloc HB8.out.size (.cells #[.slice (some ⟨w7.heap.size, 0, none⟩) 1 1, .slice none 0 0] 23))
      have HP9 := Lib.hid (lit_parts2 (w7.alloc (.cells #[.int .u8 1] 5)) (some ⟨w7.heap.size, 0, none⟩) 1 1 [1] 23 (lit_row w7 [1] 5 (by intro v hv; simp at hv; omega) (by simp; unfold maxLen; omega)) (Nat.le_refl _))
      have HSZ := Lib.hid (show (w7.alloc (.cells #[.int .u8 1] 5)).heap.size = w7.heap.size + 1 by simp)
      rw [HSZ.out] at HP9
      go_wp2_with (fail)
      refine (pack_row (some ⟨w7.heap.size + 1, 0, none⟩) 2 2 [[1], []] E _ HP9.out (by omega) (HS.out.below HB9.out).five).mono ?_
      rintro e w10 ⟨A10, m10, c10, rfl, -, -, hB⟩
      rw [HC1.out, errV_pos E (show 103 ≠ 0 by decide)]
      clear HB
      have HB := Lib.hid (HB9.out.trans (hB.mono HB9.out.size))
      clear hB HB8 HB9 HP9 HSZ
      go_wp2_with (first
        | (at_make; refine wpList_make_full _ rfl _ _ 23 rfl w10.heap.size 5 i0 (.int .u8 0) 1 Tryd.underlying23 hi0 hz0 hz1 _ _ _ _ 4096 rfl rfl (by omega) (by omega) (by rw [hz2]; omega) (by unfold maxLen; omega) (Nat.le_refl _) ?_; intro w11 hown1 hgrow1; rw [zeros, ← H4Z.out] at hown1; have HOm := Lib.hid ((show OwnB w11 w10.heap.size 5 .u8 w10.heap.size 4096 4096 P4 from hown1).row8 H4W.out); have HBm := Lib.hid (HB.out.trans (((Below.refl w10.heap.size w10).grown hgrow1 (Nat.le_refl _) (by simp)).mono HB.out.size)); clear hown1 hgrow1 HB)
        | fail)
      have HP4 := Lib.hid (lit_parts1 w11 (some ⟨w10.heap.size, 0, none⟩) 4096 4096 P4 23 HOm.out (Nat.le_refl _))
      have HBn := Lib.hid (HBm.out.alloc HBm.out.size (.cells #[.slice (some ⟨w10.heap.size, 0, none⟩) 4096 4096] 23))
      refine (pack_row (some ⟨w11.heap.size, 0, none⟩) 1 1 [P4] E _ HP4.out (by omega) (HS.out.below HBn.out).five).mono ?_
      rintro e w12 ⟨A12, m12, c12, rfl, -, -, hB⟩
      rw [HC4.out, errV_pos E (show 103 ≠ 0 by decide)]
      have HB := Lib.hid (HBn.out.trans (hB.mono HBn.out.size))
      clear hB HBm HBn HP4 HOm
      go_wp2_with (first
        | (at_make; refine wpList_make_full _ rfl _ _ 23 rfl w12.heap.size 5 i0 (.int .u8 0) 1 Tryd.underlying23 hi0 hz0 hz1 _ _ _ _ 4095 rfl rfl (by omega) (by omega) (by rw [hz2]; omega) (by unfold maxLen; omega) (Nat.le_refl _) ?_; intro w13 hown1 hgrow1; rw [zeros, ← H5Z.out] at hown1; have HOm := Lib.hid ((show OwnB w13 w12.heap.size 5 .u8 w12.heap.size 4095 4095 P5 from hown1).row8 H5W.out); have HBm := Lib.hid (HB.out.trans (((Below.refl w12.heap.size w12).grown hgrow1 (Nat.le_refl _) (by simp)).mono HB.out.size)); clear hown1 hgrow1 HB)
        | fail)
      have HP5 := Lib.hid (lit_parts1 w13 (some ⟨w12.heap.size, 0, none⟩) 4095 4095 P5 23 HOm.out (Nat.le_refl _))
      have HBn := Lib.hid (HBm.out.alloc HBm.out.size (.cells #[.slice (some ⟨w12.heap.size, 0, none⟩) 4095 4095] 23))
      refine (pack_row (some ⟨w13.heap.size, 0, none⟩) 1 1 [P5] E _ HP5.out (by omega) (HS.out.below HBn.out).five).mono ?_
      rintro e w14 ⟨A14, m14, c14, rfl, -, -, hB⟩
      rw [HC5.out, errV_zero]
      have HB := Lib.hid (HBn.out.trans (hB.mono HBn.out.size))
      clear hB HBm HBn HP5 HOm
      go_wp2_with (fail)
      refine (is_any E 104 104 w14 (HS.out.below HB.out) (by decide)).mono ?_
      rintro e w15 ⟨rfl, hB⟩
      rw [show (((104 : Nat) : Int) == 104) = true by decide]
      have T0 := Lib.hid (HB.out.trans (hB.mono HB.out.size))
      clear HB
      have HB := T0
      clear T0
      clear hB
      go_wp2_with (fail)
      refine (is_any E 103 103 w15 (HS.out.below HB.out) (by decide)).mono ?_
      rintro e w16 ⟨rfl, hB⟩
      rw [show (((103 : Nat) : Int) == 103) = true by decide]
      have T0 := Lib.hid (HB.out.trans (hB.mono HB.out.size))
      clear HB
      have HB := T0
      clear T0
      clear hB
      go_wp2_with (fail)
      refine (is_any E 103 103 w16 (HS.out.below HB.out) (by decide)).mono ?_
      rintro e w17 ⟨rfl, hB⟩
      rw [show (((103 : Nat) : Int) == 103) = true by decide]
      have T0 := Lib.hid (HB.out.trans (hB.mono HB.out.size))
      clear HB
      have HB := T0
      clear T0
      clear hB
      go_wp2_with (fail)
      refine (is_any E 103 103 w17 (HS.out.below HB.out) (by decide)).mono ?_
      rintro e w18 ⟨rfl, hB⟩
      rw [show (((103 : Nat) : Int) == 103) = true by decide]
      have T0 := Lib.hid (HB.out.trans (hB.mono HB.out.size))
      clear HB
      have HB := T0
      clear T0
      clear hB
      go_wp2
      go_ret
      exact ⟨rfl, HB.out⟩
    have e1' : decide (64 < k) = false := by simp at e1 ⊢; omega
    cases e2 : decide ((65535 : Int) < (all : Int))
    case true =>
      have e2' : decide (65535 < all) = true := by simp at e2 ⊢; omega
      have HE := Lib.hid (show cL = 104 by rw [HMC.out]; unfold manyB; rw [e1, e2]; rfl)
      rw [HE.out] at HM6
      rw [HE.out]
      rw [if_neg (by decide)] at HM6
      obtain rfl : m6 = 0 := HM6.out.symm
      rw [errV_pos E (by decide)]
      clear HMC HAL HM6 HLn HNN
      go_wp2_with (fail)
      refine (pack_row none 0 0 [] E w6 RowP.nil (by omega) (HS.out.below HB.out).five).mono ?_
      rintro e w7 ⟨A7, m7, c7, rfl, -, -, hB⟩
      rw [HC0.out, errV_pos E (show 103 ≠ 0 by decide)]
      have T0 := Lib.hid (HB.out.trans (hB.mono HB.out.size))
      clear HB
      have HB := T0
      clear T0
      clear hB
      have HB8 := Lib.hid (HB.out.alloc HB.out.size (.cells #[.int .u8 1] 5))
      have HB9 := Lib.hid (HB8.out.alloc HB8.out.size (.cells #[.slice (some ⟨w7.heap.size, 0, none⟩) 1 1, .slice none 0 0] 23))
      have HP9 := Lib.hid (lit_parts2 (w7.alloc (.cells #[.int .u8 1] 5)) (some ⟨w7.heap.size, 0, none⟩) 1 1 [1] 23 (lit_row w7 [1] 5 (by intro v hv; simp at hv; omega) (by simp; unfold maxLen; omega)) (Nat.le_refl _))
      have HSZ := Lib.hid (show (w7.alloc (.cells #[.int .u8 1] 5)).heap.size = w7.heap.size + 1 by simp)
      rw [HSZ.out] at HP9
      go_wp2_with (fail)
      refine (pack_row (some ⟨w7.heap.size + 1, 0, none⟩) 2 2 [[1], []] E _ HP9.out (by omega) (HS.out.below HB9.out).five).mono ?_
      rintro e w10 ⟨A10, m10, c10, rfl, -, -, hB⟩
      rw [HC1.out, errV_pos E (show 103 ≠ 0 by decide)]
      clear HB
      have HB := Lib.hid (HB9.out.trans (hB.mono HB9.out.size))
      clear hB HB8 HB9 HP9 HSZ
      go_wp2_with (first
        | (at_make; refine wpList_make_full _ rfl _ _ 23 rfl w10.heap.size 5 i0 (.int .u8 0) 1 Tryd.underlying23 hi0 hz0 hz1 _ _ _ _ 4096 rfl rfl (by omega) (by omega) (by rw [hz2]; omega) (by unfold maxLen; omega) (Nat.le_refl _) ?_; intro w11 hown1 hgrow1; rw [zeros, ← H4Z.out] at hown1; have HOm := Lib.hid ((show OwnB w11 w10.heap.size 5 .u8 w10.heap.size 4096 4096 P4 from hown1).row8 H4W.out); have HBm := Lib.hid (HB.out.trans (((Below.refl w10.heap.size w10).grown hgrow1 (Nat.le_refl _) (by simp)).mono HB.out.size)); clear hown1 hgrow1 HB)
        | fail)
      have HP4 := Lib.hid (lit_parts1 w11 (some ⟨w10.heap.size, 0, none⟩) 4096 4096 P4 23 HOm.out (Nat.le_refl _))
      have HBn := Lib.hid (HBm.out.alloc HBm.out.size (.cells #[.slice (some ⟨w10.heap.size, 0, none⟩) 4096 4096] 23))
      refine (pack_row (some ⟨w11.heap.size, 0, none⟩) 1 1 [P4] E _ HP4.out (by omega) (HS.out.below HBn.out).five).mono ?_
      rintro e w12 ⟨A12, m12, c12, rfl, -, -, hB⟩
      rw [HC4.out, errV_pos E (show 103 ≠ 0 by decide)]
      have HB := Lib.hid (HBn.out.trans (hB.mono HBn.out.size))
      clear hB HBm HBn HP4 HOm
      go_wp2_with (first
        | (at_make; refine wpList_make_full _ rfl _ _ 23 rfl w12.heap.size 5 i0 (.int .u8 0) 1 Tryd.underlying23 hi0 hz0 hz1 _ _ _ _ 4095 rfl rfl (by omega) (by omega) (by rw [hz2]; omega) (by unfold maxLen; omega) (Nat.le_refl _) ?_; intro w13 hown1 hgrow1; rw [zeros, ← H5Z.out] at hown1; have HOm := Lib.hid ((show OwnB w13 w12.heap.size 5 .u8 w12.heap.size 4095 4095 P5 from hown1).row8 H5W.out); have HBm := Lib.hid (HB.out.trans (((Below.refl w12.heap.size w12).grown hgrow1 (Nat.le_refl _) (by simp)).mono HB.out.size)); clear hown1 hgrow1 HB)
        | fail)
      have HP5 := Lib.hid (lit_parts1 w13 (some ⟨w12.heap.size, 0, none⟩) 4095 4095 P5 23 HOm.out (Nat.le_refl _))
      have HBn := Lib.hid (HBm.out.alloc HBm.out.size (.cells #[.slice (some ⟨w12.heap.size, 0, none⟩) 4095 4095] 23))
      refine (pack_row (some ⟨w13.heap.size, 0, none⟩) 1 1 [P5] E _ HP5.out (by omega) (HS.out.below HBn.out).five).mono ?_
      rintro e w14 ⟨A14, m14, c14, rfl, -, -, hB⟩
      rw [HC5.out, errV_zero]
      have HB := Lib.hid (HBn.out.trans (hB.mono HBn.out.size))
      clear hB HBm HBn HP5 HOm
      go_wp2_with (fail)
      refine (is_any E 104 104 w14 (HS.out.below HB.out) (by decide)).mono ?_
      rintro e w15 ⟨rfl, hB⟩
      rw [show (((104 : Nat) : Int) == 104) = true by decide]
      have T0 := Lib.hid (HB.out.trans (hB.mono HB.out.size))
      clear HB
      have HB := T0
      clear T0
      clear hB
      go_wp2_with (fail)
      refine (is_any E 103 103 w15 (HS.out.below HB.out) (by decide)).mono ?_
      rintro e w16 ⟨rfl, hB⟩
      rw [show (((103 : Nat) : Int) == 103) = true by decide]
      have T0 := Lib.hid (HB.out.trans (hB.mono HB.out.size))
      clear HB
      have HB := T0
      clear T0
      clear hB
      go_wp2_with (fail)
      refine (is_any E 103 103 w16 (HS.out.below HB.out) (by decide)).mono ?_
      rintro e w17 ⟨rfl, hB⟩
      rw [show (((103 : Nat) : Int) == 103) = true by decide]
      have T0 := Lib.hid (HB.out.trans (hB.mono HB.out.size))
      clear HB
      have HB := T0
      clear T0
      clear hB
      go_wp2_with (fail)
      refine (is_any E 103 103 w17 (HS.out.below HB.out) (by decide)).mono ?_
      rintro e w18 ⟨rfl, hB⟩
      rw [show (((103 : Nat) : Int) == 103) = true by decide]
      have T0 := Lib.hid (HB.out.trans (hB.mono HB.out.size))
      clear HB
      have HB := T0
      clear T0
      clear hB
      go_wp2
      go_ret
      exact ⟨rfl, HB.out⟩
    have e2' : decide (65535 < all) = false := by simp at e2 ⊢; omega
    have HE := Lib.hid (show cL = 0 by rw [HMC.out]; unfold manyB; rw [e1, e2]; rfl)
    rw [HE.out] at HM6
    rw [HE.out]
    rw [if_pos rfl, HAL.out] at HM6
    obtain rfl : m6 = all := HM6.out.symm
    rw [errV_zero]
    clear HMC HAL HM6 HLn HNN
    go_wp2_with (fail)
    refine (pack_row none 0 0 [] E w6 RowP.nil (by omega) (HS.out.below HB.out).five).mono ?_
    rintro e w7 ⟨A7, m7, c7, rfl, -, -, hB⟩
    rw [HC0.out, errV_pos E (show 103 ≠ 0 by decide)]
    have T0 := Lib.hid (HB.out.trans (hB.mono HB.out.size))
    clear HB
    have HB := T0
    clear T0
    clear hB
    have HB8 := Lib.hid (HB.out.alloc HB.out.size (.cells #[.int .u8 1] 5))
    have HB9 := Lib.hid (HB8.out.alloc HB8.out.size (.cells #[.slice (some ⟨w7.heap.size, 0, none⟩) 1 1, .slice none 0 0] 23))
    have HP9 := Lib.hid (lit_parts2 (w7.alloc (.cells #[.int .u8 1] 5)) (some ⟨w7.heap.size, 0, none⟩) 1 1 [1] 23 (lit_row w7 [1] 5 (by intro v hv; simp at hv; omega) (by simp; unfold maxLen; omega)) (Nat.le_refl _))
    have HSZ := Lib.hid (show (w7.alloc (.cells #[.int .u8 1] 5)).heap.size = w7.heap.size + 1 by simp)
    rw [HSZ.out] at HP9
    go_wp2_with (fail)
    refine (pack_row (some ⟨w7.heap.size + 1, 0, none⟩) 2 2 [[1], []] E _ HP9.out (by omega) (HS.out.below HB9.out).five).mono ?_
    rintro e w10 ⟨A10, m10, c10, rfl, -, -, hB⟩
    rw [HC1.out, errV_pos E (show 103 ≠ 0 by decide)]
    clear HB
    have HB := Lib.hid (HB9.out.trans (hB.mono HB9.out.size))
    clear hB HB8 HB9 HP9 HSZ
    go_wp2_with (first
      | (at_make; refine wpList_make_full _ rfl _ _ 23 rfl w10.heap.size 5 i0 (.int .u8 0) 1 Tryd.underlying23 hi0 hz0 hz1 _ _ _ _ 4096 rfl rfl (by omega) (by omega) (by rw [hz2]; omega) (by unfold maxLen; omega) (Nat.le_refl _) ?_; intro w11 hown1 hgrow1; rw [zeros, ← H4Z.out] at hown1; have HOm := Lib.hid ((show OwnB w11 w10.heap.size 5 .u8 w10.heap.size 4096 4096 P4 from hown1).row8 H4W.out); have HBm := Lib.hid (HB.out.trans (((Below.refl w10.heap.size w10).grown hgrow1 (Nat.le_refl _) (by simp)).mono HB.out.size)); clear hown1 hgrow1 HB)
      | fail)
    have HP4 := Lib.hid (lit_parts1 w11 (some ⟨w10.heap.size, 0, none⟩) 4096 4096 P4 23 HOm.out (Nat.le_refl _))
    have HBn := Lib.hid (HBm.out.alloc HBm.out.size (.cells #[.slice (some ⟨w10.heap.size, 0, none⟩) 4096 4096] 23))
    refine (pack_row (some ⟨w11.heap.size, 0, none⟩) 1 1 [P4] E _ HP4.out (by omega) (HS.out.below HBn.out).five).mono ?_
    rintro e w12 ⟨A12, m12, c12, rfl, -, -, hB⟩
    rw [HC4.out, errV_pos E (show 103 ≠ 0 by decide)]
    have HB := Lib.hid (HBn.out.trans (hB.mono HBn.out.size))
    clear hB HBm HBn HP4 HOm
    go_wp2_with (first
      | (at_make; refine wpList_make_full _ rfl _ _ 23 rfl w12.heap.size 5 i0 (.int .u8 0) 1 Tryd.underlying23 hi0 hz0 hz1 _ _ _ _ 4095 rfl rfl (by omega) (by omega) (by rw [hz2]; omega) (by unfold maxLen; omega) (Nat.le_refl _) ?_; intro w13 hown1 hgrow1; rw [zeros, ← H5Z.out] at hown1; have HOm := Lib.hid ((show OwnB w13 w12.heap.size 5 .u8 w12.heap.size 4095 4095 P5 from hown1).row8 H5W.out); have HBm := Lib.hid (HB.out.trans (((Below.refl w12.heap.size w12).grown hgrow1 (Nat.le_refl _) (by simp)).mono HB.out.size)); clear hown1 hgrow1 HB)
      | fail)
    have HP5 := Lib.hid (lit_parts1 w13 (some ⟨w12.heap.size, 0, none⟩) 4095 4095 P5 23 HOm.out (Nat.le_refl _))
    have HBn := Lib.hid (HBm.out.alloc HBm.out.size (.cells #[.slice (some ⟨w12.heap.size, 0, none⟩) 4095 4095] 23))
    refine (pack_row (some ⟨w13.heap.size, 0, none⟩) 1 1 [P5] E _ HP5.out (by omega) (HS.out.below HBn.out).five).mono ?_
    rintro e w14 ⟨A14, m14, c14, rfl, -, -, hB⟩
    rw [HC5.out, errV_zero]
    have HB := Lib.hid (HBn.out.trans (hB.mono HBn.out.size))
    clear hB HBm HBn HP5 HOm
    go_wp2_with (fail)
    refine (is_any E 0 104 w14 (HS.out.below HB.out) (by decide)).mono ?_
    rintro e w15 ⟨rfl, hB⟩
    rw [show (((0 : Nat) : Int) == 104) = false by decide]
    have T0 := Lib.hid (HB.out.trans (hB.mono HB.out.size))
    clear HB
    have HB := T0
    clear T0
    clear hB
    go_wp2_with (fail)
    refine (is_any E 103 103 w15 (HS.out.below HB.out) (by decide)).mono ?_
    rintro e w16 ⟨rfl, hB⟩
    rw [show (((103 : Nat) : Int) == 103) = true by decide]
    have T0 := Lib.hid (HB.out.trans (hB.mono HB.out.size))
    clear HB
    have HB := T0
    clear T0
    clear hB
    go_wp2_with (fail)
    refine (is_any E 103 103 w16 (HS.out.below HB.out) (by decide)).mono ?_
    rintro e w17 ⟨rfl, hB⟩
    rw [show (((103 : Nat) : Int) == 103) = true by decide]
    have T0 := Lib.hid (HB.out.trans (hB.mono HB.out.size))
    clear HB
    have HB := T0
    clear T0
    clear hB
    go_wp2_with (fail)
    refine (is_any E 103 103 w17 (HS.out.below HB.out) (by decide)).mono ?_
    rintro e w18 ⟨rfl, hB⟩
    rw [show (((103 : Nat) : Int) == 103) = true by decide]
    have T0 := Lib.hid (HB.out.trans (hB.mono HB.out.size))
    clear HB
    have HB := T0
    clear T0
    clear hB
    go_wp2
    go_ret
    exact ⟨rfl, HB.out⟩
end Go.Proofs.YtejdmpdbapfomaaDoor.ampduMany
