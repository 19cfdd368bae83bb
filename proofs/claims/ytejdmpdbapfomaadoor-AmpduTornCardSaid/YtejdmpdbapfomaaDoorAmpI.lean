/-
  CONTRACT of the reference's Unpack.
-/
import Derived.Test.YtejdmpdbapfomaaDoorAmpH
namespace Go.Proofs.YtejdmpdbapfomaaDoor
open Go.ChangeShapes Go.WideShapes Go.ChangeAt Go.RowKit Go.Deep
set_option linter.unusedVariables false
set_option linter.unusedSimpArgs false

set_option maxRecDepth 100000 in
set_option maxHeartbeats 8000000 in
theorem refunpack_any (A : Option Addr) (n c : Nat) (xs : List Int) (w : World) (h : RowB .u8 w A n xs) (hnc : n ≤ c) (hn : n ≤ 100000000) :
    Calls Tryd.prog 18 #[.slice A n c] w fun e w' => OutU xs w e w' := by
  have HR := Lib.hid h
  have HL := Lib.hid h.len
  clear h
  go_enter Tryd.func18, Tryd.ntmps18
  go_wp2
  go_loopw [3, 4] (fun v i wr => ∃ (t k : Nat) (out : List (List Int)), t ≤ n + 3 ∧ t % 4 = 0 ∧ k ≤ t ∧ i = .int .i64 t ∧ OwnP wr w.heap.size 23 v k out ∧ out ++ unpackR (xs.drop t) = unpackR xs ∧ Below w.heap.size w wr) (fun _ i _ => n + 4 - (intOf i).toNat)
  case atStart => exact ⟨0, 0, [], by omega, rfl, by omega, rfl, OwnP.nil _ _ _, rfl, Below.refl _ _⟩
  case round =>
    obtain ⟨t, k, out, ht, hm, hk, rfl, hown, hinv, hbel⟩ := hrel
    have HP := Lib.hid hown
    have HI := Lib.hid hinv
    have HB := Lib.hid hbel
    have HM := Lib.hid hm
    clear hown hinv hbel hm
    by_cases h4 : t + 4 ≤ n
    case neg =>
      have d4 : decide ((4 : Int) ≤ (n : Int) - (t : Int)) = false := by simp; omega
      have HF := Lib.hid (show unpackR xs = out by rw [← HI.out, unpack_at_end (b := xs) (i := t) (by rw [HL.out]; omega), List.append_nil])
      go_wp2
      go_ret
      exact OutU.good HF.out HP.out (by omega) HB.out
    have d4 : decide ((4 : Int) ≤ (n : Int) - (t : Int)) = true := by simp; omega
    have htc : t < c := by omega
    have h4c : t + 4 ≤ c := by omega
    have ht4 : t + 4 - t = 4 := by omega
    obtain ⟨b, off, rfl, -⟩ := HR.out.cells (by omega)
    have HD := Lib.hid (drop_row (HR.out.below HB.out) t (by omega))
    have c0 := HD.out.at_ 0 (by omega)
    rw [Nat.add_zero] at c0
    have c2 := HD.out.at_ 2 (by omega)
    have c3 := HD.out.at_ 3 (by omega)
    have W0 := Lib.hid (HD.out.wf8 0 (by omega))
    have W1 := Lib.hid (HD.out.wf8 1 (by omega))
    have HLD := Lib.hid (show ((xs.drop t).getD 0 0 + (xs.drop t).getD 1 0 * 256) / 16 = ((lenD (xs.drop t) : Nat) : Int) by
      have := W0.out; have := W1.out
      unfold lenD; omega)
    have hLb : lenD (xs.drop t) ≤ 4095 := by
      have := W0.out; have := W1.out
      unfold lenD; omega
    have HDL := Lib.hid (show (xs.drop t).length = n - t by rw [List.length_drop, HL.out])
    have HGD := Lib.hid (goodD_code (r := xs.drop t) (by rw [HDL.out]; omega))
    have H106 := Lib.hid (codeD_106 (r := xs.drop t) (by rw [HDL.out]; omega))
    have H102 := Lib.hid (codeD_102 (r := xs.drop t) (by rw [HDL.out]; omega))
    have H101 := Lib.hid (codeD_101 (r := xs.drop t) (by rw [HDL.out]; omega))
    have H0 := Lib.hid (codeD_0 (r := xs.drop t) (by rw [HDL.out]; omega))
    have HBAD := Lib.hid (show codeD (xs.drop t) ≠ 0 → out ++ unpackR (xs.drop (t + 4)) = unpackR xs from fun hcd => by
      rw [← HI.out, unpack_at_bad (b := xs) (i := t) (by rw [HL.out]; omega) (by rw [HGD.out]; simpa using hcd)])
    have HGOOD := Lib.hid (show codeD (xs.drop t) = 0 → _ from fun hcd => unpack_at_good (b := xs) (i := t) (by rw [HL.out]; omega) (by rw [HGD.out, hcd]; rfl))
    have HS2 := Lib.hid (fun (w' : World) (hB : Below w.heap.size w w') => ((drop_row (HR.out.below hB) t (by omega)).first 2 (by omega)))
    have HF4 := Lib.hid (HD.out.first 4 (by omega))
    have HT0 := Lib.hid (show ((xs.drop t).take 4).getD 0 0 = (xs.drop t).getD 0 0 ∧ ((xs.drop t).take 4).getD 1 0 = (xs.drop t).getD 1 0 by simp [List.getD])
    clear HD HGD
    obtain ⟨L, hL⟩ : ∃ L, L = lenD (xs.drop t) := ⟨_, rfl⟩
    rw [← hL] at H102 H101 H0 HLD hLb HGOOD
    clear hL
    rw [HDL.out] at H101 H0
    generalize (xs.drop t).getD 0 0 = v0 at *
    generalize (xs.drop t).getD 1 0 = v1 at *
    generalize (xs.drop t).getD 2 0 = v2 at *
    generalize (xs.drop t).getD 3 0 = v3 at *
    go_wp2_with (fail)
    refine (num_any b (off + t) 4 (c - t) ((xs.drop t).take 4) _ HF4.out (by omega)).mono ?_
    rintro e w' ⟨rfl, m2, rfl⟩
    rw [HT0.out.1, HT0.out.2]
    have HB2 := Lib.hid (show Below w.heap.size w (wr.drewN m2) from below_drewN HB.out _)
    have HP2 := Lib.hid (show OwnP (wr.drewN m2) w.heap.size 23 u3 k out from HP.out.drewN _)
    have c0' : (wr.drewN m2).cell? ⟨b, off + t, none⟩ = some (.int .u8 v0) := c0
    have c2' : (wr.drewN m2).cell? ⟨b, off + t + 2, none⟩ = some (.int .u8 v2) := c2
    have c3' : (wr.drewN m2).cell? ⟨b, off + t + 3, none⟩ = some (.int .u8 v3) := c3
    clear c0 c2 c3 HB HP HF4 HT0
    generalize wr.drewN m2 = w2 at *
    have HQ := Lib.hid (fun m => quiet_eq (refsum_any (some ⟨b, off + t, none⟩) 2 (c - t) ((xs.drop t).take 2) (w2.drewN m) ((HS2.out w2 HB2.out).drewN m)))
    clear HS2
    generalize sum ((xs.drop t).take 2) = sm at *
    have y4 : (v0 + v1 * 256) / 16 = (L : Int) := HLD.out
    have y6 : (0 : Int) ≤ v0 + v1 * 256 := by have := W1.out; have := W0.out; omega
    have y15 := low15 v0 W0.out
    have w0a := W0.out
    cases efit : (sm == v2)
    case false =>
      have HNX := Lib.hid (HBAD.out (by rw [H106.out (by simpa using efit)]; decide))
      go_wp2
      go_quiet ((go_at_call 30; exact HQ.out _))
      have HB9 := Lib.hid (show Below w.heap.size w (w2.drewN nq) from below_drewN HB2.out _)
      have HP9 := Lib.hid (show OwnP (w2.drewN nq) w.heap.size 23 u3 k out from HP2.out.drewN _)
      clear HQ c0' c2' c3'
      generalize w2.drewN nq = w9 at *
      go_wp2
      go_roundw
      case rel => exact ⟨t + 4, k, out, by omega, by have := HM.out; omega, by omega, by go_num, HP9.out, HNX.out, HB9.out⟩
      case measure => simp [intOf]; omega
    have hfit : sm = v2 := by simpa using efit
    have H102 := Lib.hid (H102.out hfit)
    have H101 := Lib.hid (H101.out hfit)
    have H0 := Lib.hid (H0.out hfit)
    clear H106 hfit
    cases e3 : (v3 == 78)
    case false =>
      have HNX := Lib.hid (HBAD.out (by rw [H102.out (.inl (by simpa using e3))]; decide))
      go_wp2
      go_quiet ((go_at_call 30; exact HQ.out _))
      have HB9 := Lib.hid (show Below w.heap.size w (w2.drewN nq) from below_drewN HB2.out _)
      have HP9 := Lib.hid (show OwnP (w2.drewN nq) w.heap.size 23 u3 k out from HP2.out.drewN _)
      clear HQ c0' c2' c3'
      generalize w2.drewN nq = w9 at *
      go_wp2
      go_roundw
      case rel => exact ⟨t + 4, k, out, by omega, by have := HM.out; omega, by omega, by go_num, HP9.out, HNX.out, HB9.out⟩
      case measure => simp [intOf]; omega
    cases e0 : (v0 % 16 == 0)
    case false =>
      have e0' : (bits .and .u8 v0 15 == 0) = false := by rw [y15]; exact e0
      have HNX := Lib.hid (HBAD.out (by rw [H102.out (.inr (.inl (by simpa using e0)))]; decide))
      go_wp2
      go_quiet ((go_at_call 30; exact HQ.out _))
      have HB9 := Lib.hid (show Below w.heap.size w (w2.drewN nq) from below_drewN HB2.out _)
      have HP9 := Lib.hid (show OwnP (w2.drewN nq) w.heap.size 23 u3 k out from HP2.out.drewN _)
      clear HQ c0' c2' c3'
      generalize w2.drewN nq = w9 at *
      go_wp2
      go_roundw
      case rel => exact ⟨t + 4, k, out, by omega, by have := HM.out; omega, by omega, by go_num, HP9.out, HNX.out, HB9.out⟩
      case measure => simp [intOf]; omega
    have e0' : (bits .and .u8 v0 15 == 0) = true := by rw [y15]; exact e0
    by_cases hz : L = 0
    · subst hz
      have HNX := Lib.hid (HBAD.out (by rw [H102.out (.inr (.inr rfl))]; decide))
      go_wp2
      go_quiet ((go_at_call 30; exact HQ.out _))
      have HB9 := Lib.hid (show Below w.heap.size w (w2.drewN nq) from below_drewN HB2.out _)
      have HP9 := Lib.hid (show OwnP (w2.drewN nq) w.heap.size 23 u3 k out from HP2.out.drewN _)
      clear HQ c0' c2' c3'
      generalize w2.drewN nq = w9 at *
      go_wp2
      go_roundw
      case rel => exact ⟨t + 4, k, out, by omega, by have := HM.out; omega, by omega, by go_num, HP9.out, HNX.out, HB9.out⟩
      case measure => simp [intOf]; omega
    have hz0 : decide ((0 : Int) < (L : Int)) = true := by simp; omega
    have hz0' : decide (0 < L) = true := by simp; omega
    have hno : ¬ (v3 ≠ 78 ∨ v0 % 16 ≠ 0 ∨ L = 0) := by
      simp only [not_or, Decidable.not_not]
      exact ⟨by simpa using e3, by simpa using e0, hz⟩
    have H101 := Lib.hid (H101.out hno)
    have H0 := Lib.hid (H0.out hno)
    clear hno H102
    by_cases hlen : n - t < 4 + L
    · have d5 : decide ((L : Int) ≤ (n : Int) - (t : Int) - 4) = false := by simp; omega
      have HNX := Lib.hid (HBAD.out (by rw [H101.out hlen]; decide))
      go_wp2
      go_quiet ((go_at_call 30; exact HQ.out _))
      have HB9 := Lib.hid (show Below w.heap.size w (w2.drewN nq) from below_drewN HB2.out _)
      have HP9 := Lib.hid (show OwnP (w2.drewN nq) w.heap.size 23 u3 k out from HP2.out.drewN _)
      clear HQ c0' c2' c3'
      generalize w2.drewN nq = w9 at *
      go_wp2
      go_roundw
      case rel => exact ⟨t + 4, k, out, by omega, by have := HM.out; omega, by omega, by go_num, HP9.out, HNX.out, HB9.out⟩
      case measure => simp [intOf]; omega
    have d5 : decide ((L : Int) ≤ (n : Int) - (t : Int) - 4) = true := by simp; omega
    have HNG := Lib.hid (HGOOD.out (H0.out hlen))
    have HPC := Lib.hid (fun (w' : World) (hB : Below w.heap.size w w') => piece (HR.out.below hB) (t + 4) L (by omega))
    have HPW0 := Lib.hid (fun i hi => (HPC.out w (Below.refl _ _)).wf8 i hi)
    obtain ⟨P, hPP⟩ : ∃ P, P = (xs.drop (t + 4)).take L := ⟨_, rfl⟩
    rw [← hPP] at HPC HPW0 HNG
    have HPW := HPW0
    clear hPP HPW0
    obtain ⟨T, hT⟩ : ∃ T : Nat, (t : Int) + 4 + (L : Int) = (T : Int) := ⟨t + 4 + L, by omega⟩
    have hT1 : T ≤ n := by omega
    have hT2 : T - (t + 4) = L := by omega
    have HT := Lib.hid (show T = t + 4 + L by omega)
    have hp3 : pad T ≤ 3 := by unfold pad; omega
    have HNX := Lib.hid (show (out ++ [P]) ++ unpackR (xs.drop (T + pad T)) = unpackR xs by
      rw [← HI.out, HNG.out, List.append_assoc]
      congr 2
      have h1 := HT.out
      have h2 := HM.out
      rw [h1, show pad (t + 4 + L) = pad L by unfold pad; omega]
      rfl)
    have HMX := Lib.hid (show (T + pad T) % 4 = 0 by unfold pad; omega)
    have HTP := Lib.hid (show ((T : Int) + 3) / 4 * 4 = ((T + pad T : Nat) : Int) by unfold pad; omega)
    have HTT := Lib.hid (show t < T by have := HT.out; omega)
    clear HNG HGOOD HBAD hlen H101 H0
    generalize pad T = q at *
    go_wp2
    go_quiet ((go_at_call 30; exact HQ.out _))
    have HB9 := Lib.hid (show Below w.heap.size w (w2.drewN nq) from below_drewN HB2.out _)
    have HP9 := Lib.hid (show OwnP (w2.drewN nq) w.heap.size 23 u3 k out from HP2.out.drewN _)
    clear HQ c0' c2' c3' HB2 HP2
    generalize w2.drewN nq = w9 at *
    clear d4 d5 efit e3 e0 e0' hz0 hz0' hLb w0a y6 y15
    go_wp2_with (fail)
    refine (bytes_any (some ⟨b, off + (t + 4), none⟩) L (c - (t + 4)) P w9 (HPC.out w9 HB9.out) (by omega)).mono ?_
    rintro e w3 ⟨g3, cap3, rfl, hO3, hB3⟩
    have HE := Lib.hid (ElP.of_own HP9.out hO3 HPW.out)
    have HB3 := Lib.hid (HB9.out.trans (hB3.mono HB9.out.size))
    have HP3 := Lib.hid (HP9.out.below hB3)
    clear hO3 hB3 HB9 HP9
    go_wp2_with (first | (refine app_part rfl (.tmp 53) (.tmp 63) rfl w.heap.size k u3 out rfl (HP3.out.below ((Below.refl w3.heap.size w3).alloc (Nat.le_refl _) _)) (.slice (some ⟨g3, 0, none⟩) L cap3) P (HE.out.keep (fun k _ hk => ((Below.refl w3.heap.size w3).alloc (Nat.le_refl _) _).block k hk)) ⟨w3.heap.size, 0, none⟩ 1 rfl (cell_one_new _ _ _ 0 _ rfl) (by omega) (by have := HB3.out.size; simp; omega) ?_; intro g5 cap5 w5 hP5 hb5; have HP5 := hP5; have HB5 := Lib.hid ((HB3.out.alloc HB3.out.size _).trans hb5.out); clear hP5 hb5 HP3 HB3 HE))
    go_roundw
    case rel => exact ⟨T + q, k + 1, out ++ [P], by omega, HMX.out, by have := HTT.out; omega, ret_val (by have := HTP.out; omega), HP5.out, HNX.out, HB5.out⟩
    case measure => have := HTT.out; have := HTP.out; simp [intOf]; omega
end Go.Proofs.YtejdmpdbapfomaaDoor
