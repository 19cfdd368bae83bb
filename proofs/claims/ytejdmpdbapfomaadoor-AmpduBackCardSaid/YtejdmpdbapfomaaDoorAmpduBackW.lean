/-
  The walk of muezzin/muezzinlaw7.AmpduBack: the Go text returns true.
-/
import Derived.Test.YtejdmpdbapfomaaDoorAmpJ
import Derived.Test.YtejdmpdbapfomaaDoorOpenP
import Derived.WalkKit
import Derived.ProofKit
import Derived.Below
namespace Go.Proofs.YtejdmpdbapfomaaDoor.ampduBack
open Go.ChangeShapes Go.WideShapes Go.ChangeAt Go.RowKit Go.Joins Go.Deep
set_option linter.unusedVariables false
set_option linter.unusedSimpArgs false

set_option maxRecDepth 100000 in
set_option maxHeartbeats 8000000 in
theorem walk (a0 : Option Addr) (len0 cap0 : Nat) (ps0 : List (List Int)) (n1 : Int) (w : World) (E : Nat → Addr) (hS : Sent w E [101, 102, 103, 104, 106]) (w0 : RowP w a0 len0 ps0 ∧ len0 ≤ cap0 ∧ ∀ p ∈ ps0, p.length ≤ 140737488355328) (w1 : (Lit.int .i64 n1).wf = true) :
    Calls Tryd.prog 4 #[.slice a0 len0 cap0, .int .i64 n1] w fun e w' => e = .returned (.bool true) ∧ Below w.heap.size w w' := by
  have HS := Lib.hid (show Sent w E S5 from hS)
  have HR := Lib.hid w0.1
  have hlc := w0.2.1
  have HLN := Lib.hid w0.1.len
  have HWF := Lib.hid w0.1.wf8
  have W1 := Lib.hid w1
  clear w0 w1 hS
  go_enter Tryd.func4, Tryd.ntmps4
  go_wp2_with (fail)
  refine (first_any E w HS.out).mono ?_
  rintro e w1 ⟨rfl, hB⟩
  have HB := Lib.hid hB
  clear hB
  go_wp2_with (fail)
  refine (light_any a0 len0 cap0 ps0 w1 (HR.out.below HB.out)).mono ?_
  rintro e w' ⟨⟨v, rfl, hv⟩, rfl⟩
  cases v
  · clear hv
    go_wp2
    go_ret
    exact ⟨rfl, HB.out⟩
  obtain ⟨h70, -⟩ := hv rfl
  clear hv
  go_wp2_with (fail)
  refine (pack_any a0 len0 cap0 ps0 E w1 (HR.out.below HB.out) (by omega) (HS.out.below HB.out)).mono ?_
  rintro e w2 ⟨v, rfl, hg, hn, hB⟩
  by_cases hcp : codeP ps0 = 0
  case neg =>
    rw [errV_pos E hcp, hn hcp]
    clear hg hn hcp
    have T0 := Lib.hid (HB.out.trans (hB.mono HB.out.size))
    clear HB
    have HB := T0
    clear T0
    clear hB
    go_wp2
    go_ret
    exact ⟨rfl, HB.out⟩
  obtain ⟨g, cap, rfl, hO⟩ := hg hcp
  rw [hcp, errV_zero]
  clear hg hn
  obtain ⟨hok, hne, h64, hM⟩ := codeP_ok hcp
  have HOK := Lib.hid hok
  have HNE := Lib.hid hne
  have HRB := Lib.hid (codeR_pack ps0 hcp)
  have HPK := Lib.hid (hO.row8 (codeP_wf hcp HWF.out))
  have hcap := hO.cap_le
  have HLI := Lib.hid (show ∀ x ∈ lensI ps0, x ≤ 1000000 from fun x hx => by
    unfold lensI at hx
    simp only [List.mem_map] at hx
    obtain ⟨p, hp, rfl⟩ := hx
    have := (okP_iff.1 (HOK.out p hp)).2
    omega)
  have HPL := Lib.hid (pack_lens ps0)
  have HUP := Lib.hid (unpack_pack ps0 HOK.out)
  have HUC := Lib.hid (fun k cut => unpack_cut ps0 HOK.out k cut)
  have hn0 : 0 < len0 := by
    rcases Nat.eq_zero_or_pos len0 with h | h
    · exact absurd (List.eq_nil_of_length_eq_zero (by rw [HLN.out, h])) HNE.out
    · exact h
  have hM0 : 0 < (packB ps0).length := by
    obtain ⟨s, hs⟩ := pack_split ps0 0 (by rw [HLN.out]; exact hn0)
    rw [hs, List.length_append, List.length_append, bare_len]
    omega
  have T0 := Lib.hid (HB.out.trans (hB.mono HB.out.size))
  clear HB
  have HB := T0
  clear T0
  clear hB hO hok hne hcp h64
  obtain ⟨M, hMM⟩ : ∃ M, M = (packB ps0).length := ⟨_, rfl⟩
  rw [← hMM] at HPK hcap HPL hM hM0
  rw [← hMM]
  have HML := Lib.hid hMM.symm
  clear hMM
  go_wp2_with (fail)
  refine (parts_any (some ⟨g, 0, none⟩) M cap (packB ps0) E w2 HPK.out hcap (by omega) (HS.out.below HB.out)).mono ?_
  rintro e w3 ⟨A3, m3, c3, rfl, hr, -, hB⟩
  rw [HRB.out.1, errV_zero]
  rw [HRB.out.2] at hr
  have HP3 := Lib.hid hr
  clear hr HRB
  have T0 := Lib.hid (HB.out.trans (hB.mono HB.out.size))
  have T1 := Lib.hid (HPK.out.below hB)
  clear HB HPK
  have HB := T0
  have HPK := T1
  clear T0 T1
  clear hB
  go_wp2_with (fail)
  refine (sameParts_any A3 a0 m3 c3 len0 cap0 _ _ w3 HP3.out (HR.out.below HB.out)).mono ?_
  rintro e w4 ⟨rfl, m, rfl⟩
  rw [sameP_refl]
  have hB := below_drewN (Below.refl w3.heap.size w3) m
  clear HP3
  have T0 := Lib.hid (HB.out.trans (hB.mono HB.out.size))
  have T1 := Lib.hid (HPK.out.below hB)
  clear HB HPK
  have HB := T0
  have HPK := T1
  clear T0 T1
  clear hB
  generalize w3.drewN m = w4 at *
  go_wp2_with (fail)
  refine (unpack_any (some ⟨g, 0, none⟩) M cap (packB ps0) E w4 HPK.out hcap (by omega) (HS.out.below HB.out)).mono ?_
  rintro e w5 ⟨A5, m5, c5, rfl, hr, -, hB⟩
  rw [HUP.out] at hr
  have HP5 := Lib.hid hr
  clear hr HUP
  have T0 := Lib.hid (HB.out.trans (hB.mono HB.out.size))
  have T1 := Lib.hid (HPK.out.below hB)
  clear HB HPK
  have HB := T0
  have HPK := T1
  clear T0 T1
  clear hB
  go_wp2_with (fail)
  refine (sameParts_any A5 a0 m5 c5 len0 cap0 _ _ w5 HP5.out (HR.out.below HB.out)).mono ?_
  rintro e w6 ⟨rfl, m, rfl⟩
  rw [sameP_refl]
  have hB := below_drewN (Below.refl w5.heap.size w5) m
  clear HP5
  have T0 := Lib.hid (HB.out.trans (hB.mono HB.out.size))
  have T1 := Lib.hid (HPK.out.below hB)
  clear HB HPK
  have HB := T0
  have HPK := T1
  clear T0 T1
  clear hB
  generalize w5.drewN m = w6 at *
  go_wp2_with (fail)
  refine (lawlens_any a0 len0 cap0 ps0 w6 (HR.out.below HB.out) (by omega)).mono ?_
  rintro e w7 ⟨B1, k1, rfl, hr, hB⟩
  have HP7 := Lib.hid hr
  clear hr
  have T0 := Lib.hid (HB.out.trans (hB.mono HB.out.size))
  have T1 := Lib.hid (HPK.out.below hB)
  clear HB HPK
  have HB := T0
  have HPK := T1
  clear T0 T1
  clear hB
  go_wp2_with (fail)
  refine (len_any B1 len0 k1 (lensI ps0) w7 HP7.out HLI.out (by omega)).mono ?_
  rintro e w' ⟨rfl, rfl⟩
  rw [HPL.out]
  clear HPL HLI HP7
  have heq : ((M : Int) != (M : Int)) = false := by simp
  go_wp2_with (fail)
  refine (number_any n1 (M : Int) w7 W1.out (by omega) (by omega)).mono ?_
  rintro e w' ⟨rfl, rfl⟩
  have k1 := nmod_lo n1 (M : Int) (by omega)
  have k2 := nmod_hi n1 (M : Int) (by omega)
  generalize nmod n1 (M : Int) = cc at *
  obtain ⟨C, rfl⟩ := Int.eq_ofNat_of_zero_le k1
  have hCM : C < M := by omega
  have hCc : C ≤ cap := by omega
  clear k1 k2 heq
  go_wp2
  go_loop [10, 11] (fun a b => ∃ k t : Nat, k ≤ len0 ∧ a = .int .i64 k ∧ b = .int .i64 t ∧ (full (ps0.take k)).length = t ∧ t ≤ k * 4104 ∧ (0 < k → (full (ps0.take (k - 1))).length + 4 + (ps0.getD (k - 1) []).length ≤ C)) (fun a _ => len0 - (intOf a).toNat)
  case atStart => exact ⟨0, 0, by omega, rfl, rfl, rfl, by omega, fun h => by omega⟩
  case round =>
    obtain ⟨k, t, hk, rfl, rfl, hft, htb, hlast⟩ := hrel
    have HFT := Lib.hid hft
    have HLA := Lib.hid hlast
    clear hft hlast
    have htb2 : t ≤ 287280 := by have := Nat.mul_le_mul_right 4104 (show k ≤ 70 by omega); omega
    have EXIT : True := trivial
    by_cases hlt : k < len0
    case neg =>
      have hk' : k = len0 := by omega
      have dl : decide ((k : Int) < (len0 : Int)) = false := by simp; omega
      have dl2 : decide (k < len0) = false := by simp; omega
      have HKE := Lib.hid hk'
      clear hk' EXIT
      have HUK := Lib.hid (show ∃ rest, unpackR ((packB ps0).take C) = ps0.take k ++ rest by
        rcases Nat.eq_zero_or_pos k with h | h
        · exact ⟨_, by rw [h, List.take_zero, List.nil_append]⟩
        · have h1 := HUC.out (k - 1) C (by rw [HLN.out]; omega) (HLA.out h)
          rwa [show k - 1 + 1 = k by omega] at h1)
      go_wp2_with (fail)
      refine (unpack_any (some ⟨g, 0, none⟩) C cap ((packB ps0).take C) E w7 (HPK.out.first C (by omega)) hCc (by omega) (HS.out.below HB.out)).mono ?_
      rintro e w8 ⟨A8, m8, c8, rfl, hr, hmc, hB⟩
      obtain ⟨rest, hrest⟩ := HUK.out
      rw [hrest] at hr
      have hlen := hr.len
      rw [List.length_append, List.length_take, HLN.out, Nat.min_eq_left hk] at hlen
      have hm8 : k ≤ m8 := by omega
      have HF8 := Lib.hid (hr.first k hm8)
      rw [List.take_left' (by rw [List.length_take, HLN.out, Nat.min_eq_left hk])] at HF8
      have hA8 : A8 = none → k = 0 := fun e => by
        rcases Nat.eq_zero_or_pos k with h | h
        · exact h
        · obtain ⟨b9, o9, e9, -⟩ := hr.els (by omega)
          rw [e] at e9; cases e9
      clear hr hrest hlen HUK HLA HFT HUC
      have T0 := Lib.hid (HB.out.trans (hB.mono HB.out.size))
      have T1 := Lib.hid (HPK.out.below hB)
      clear HB HPK
      have HB := T0
      have HPK := T1
      clear T0 T1
      clear hB
      have dge : decide ((k : Int) ≤ (m8 : Int)) = true := by simp; omega
      have dge2 : decide (k ≤ m8) = true := by simp; omega
      have hkc : k ≤ c8 := by omega
      have hkc0 : k ≤ cap0 := by omega
      have HQ := Lib.hid (fun m => quiet_left (w := w8) (n := m) (sameParts_any A8 _ k c8 k cap0 _ _ (w8.drewN m) (HF8.out.drewN m) (((HR.out.below HB.out).first k hk).drewN m)))
      rw [sameP_refl] at HQ
      obtain ⟨b0, o0, rfl, -⟩ := HR.out.els hn0
      clear HF8
      have hx := hA8
      cases A8 with
      | none =>
        obtain rfl : k = 0 := hx rfl
        go_wp2
        go_quiet ((go_at_call 16; exact HQ.out _))
        go_wp2
        go_ret
        exact ⟨rfl, below_drewN HB.out _⟩
      | some ad =>
        go_wp2
        go_quiet ((go_at_call 16; exact HQ.out _))
        go_wp2
        go_ret
        exact ⟨rfl, below_drewN HB.out _⟩
    obtain ⟨b, off, a, len, ca, rfl, hc0, hr0, -⟩ := HR.out.el k hlt
    have hc := below_at HB.out hc0
    have hl1 := okP_iff.1 (HOK.out _ (mem_getP (show k < ps0.length by rw [HLN.out]; exact hlt)))
    rw [hr0.len] at hl1
    have HNF := Lib.hid (show (full (ps0.take (k + 1))).length = t + 4 + len + pad len by
      rw [take_getP (show k < ps0.length by rw [HLN.out]; exact hlt), full_snoc, List.length_append, unit_len, hr0.len, HFT.out]; omega)
    have HST := Lib.hid (show (t + 4 + len + 3) / 4 * 4 = t + 4 + len + pad len by have h1 := full_mod (ps0.take k); rw [HFT.out] at h1; unfold pad; omega)
    have hp3 : pad len ≤ 3 := by unfold pad; omega
    have HLX := Lib.hid (show (full (ps0.take k)).length + 4 + (ps0.getD k []).length = t + 4 + len by rw [HFT.out, hr0.len])
    clear hr0 hc0
    by_cases hin : t + 4 + len ≤ C
    case pos =>
      have dc : decide ((t : Int) + 4 + (len : Int) ≤ (C : Int)) = true := by simp; omega
      clear EXIT
      go_wp2
      go_round
      case rel => exact ⟨k + 1, t + 4 + len + pad len, by omega, by go_num, ret_val (by have := HST.out; omega), HNF.out, by omega, fun _ => by rw [Nat.add_sub_cancel, HLX.out]; exact hin⟩
      case measure => simp [intOf]; omega
    have dc : decide ((t : Int) + 4 + (len : Int) ≤ (C : Int)) = false := by simp; omega
    clear hin hp3 EXIT
    have HUK := Lib.hid (show ∃ rest, unpackR ((packB ps0).take C) = ps0.take k ++ rest by
      rcases Nat.eq_zero_or_pos k with h | h
      · exact ⟨_, by rw [h, List.take_zero, List.nil_append]⟩
      · have h1 := HUC.out (k - 1) C (by rw [HLN.out]; omega) (HLA.out h)
        rwa [show k - 1 + 1 = k by omega] at h1)
    go_wp2_with (fail)
    refine (unpack_any (some ⟨g, 0, none⟩) C cap ((packB ps0).take C) E w7 (HPK.out.first C (by omega)) hCc (by omega) (HS.out.below HB.out)).mono ?_
    rintro e w8 ⟨A8, m8, c8, rfl, hr, hmc, hB⟩
    obtain ⟨rest, hrest⟩ := HUK.out
    rw [hrest] at hr
    have hlen := hr.len
    rw [List.length_append, List.length_take, HLN.out, Nat.min_eq_left hk] at hlen
    have hm8 : k ≤ m8 := by omega
    have HF8 := Lib.hid (hr.first k hm8)
    rw [List.take_left' (by rw [List.length_take, HLN.out, Nat.min_eq_left hk])] at HF8
    have hA8 : A8 = none → k = 0 := fun e => by
      rcases Nat.eq_zero_or_pos k with h | h
      · exact h
      · obtain ⟨b9, o9, e9, -⟩ := hr.els (by omega)
        rw [e] at e9; cases e9
    clear hr hrest hlen HUK HLA HFT HUC
    have T0 := Lib.hid (HB.out.trans (hB.mono HB.out.size))
    have T1 := Lib.hid (HPK.out.below hB)
    clear HB HPK
    have HB := T0
    have HPK := T1
    clear T0 T1
    clear hB
    have dge : decide ((k : Int) ≤ (m8 : Int)) = true := by simp; omega
    have dge2 : decide (k ≤ m8) = true := by simp; omega
    have hkc : k ≤ c8 := by omega
    have hkc0 : k ≤ cap0 := by omega
    have HQ := Lib.hid (fun m => quiet_left (w := w8) (n := m) (sameParts_any A8 _ k c8 k cap0 _ _ (w8.drewN m) (HF8.out.drewN m) (((HR.out.below HB.out).first k hk).drewN m)))
    rw [sameP_refl] at HQ
    clear HF8
    have hx := hA8
    cases A8 with
    | none =>
      obtain rfl : k = 0 := hx rfl
      go_wp2
      go_quiet ((go_at_call 16; exact HQ.out _))
      go_wp2
      go_ret
      exact ⟨rfl, below_drewN HB.out _⟩
    | some ad =>
      go_wp2
      go_quiet ((go_at_call 16; exact HQ.out _))
      go_wp2
      go_ret
      exact ⟨rfl, below_drewN HB.out _⟩
end Go.Proofs.YtejdmpdbapfomaaDoor.ampduBack
