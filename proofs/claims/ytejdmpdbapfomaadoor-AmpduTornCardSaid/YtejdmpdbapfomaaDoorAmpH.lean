/-
  CONTRACT of the reference's Parts.
-/
import Derived.Test.YtejdmpdbapfomaaDoorAmpG
import Derived.Test.YtejdmpdbapfomaaDoorBytesC
namespace Go.Proofs.YtejdmpdbapfomaaDoor
open Go.ChangeShapes Go.WideShapes Go.ChangeAt Go.RowKit Go.Deep
set_option linter.unusedVariables false
set_option linter.unusedSimpArgs false

theorem partsR_eq {r : List Int} (h : r ≠ []) : partsR r = partsS r := by unfold partsS; rw [if_neg h]
theorem partsS_short {r : List Int} (h : codeD r = 0) (hz : codeZ (r.drop (4 + lenD r)) (pad (lenD r)) = 0) (h1 : 0 < (r.drop (4 + lenD r)).length ∧ (r.drop (4 + lenD r)).length ≤ pad (lenD r)) : partsS r = (101, []) := by
  have hn : ¬ ((r.drop (4 + lenD r)).take (pad (lenD r))).any (· != 0) = true := by
    intro h1
    unfold codeZ at hz
    rw [if_pos h1] at hz
    cases hz
  rw [partsS_step h, if_neg hn, if_pos h1]
theorem partsS_on {r : List Int} (h : codeD r = 0) (hz : codeZ (r.drop (4 + lenD r)) (pad (lenD r)) = 0) (h1 : ¬ (0 < (r.drop (4 + lenD r)).length ∧ (r.drop (4 + lenD r)).length ≤ pad (lenD r))) : partsS r = comb [(r.drop 4).take (lenD r)] (partsR (r.drop (4 + lenD r + pad (lenD r)))) := by
  have hn : ¬ ((r.drop (4 + lenD r)).take (pad (lenD r))).any (· != 0) = true := by
    intro h1
    unfold codeZ at hz
    rw [if_pos h1] at hz
    cases hz
  rw [partsS_step h, if_neg hn, if_neg h1]
def OutBR (xs : List Int) (w : World) (e : Ending) (w' : World) : Prop := ∃ A n c, e = .returned (.tuple #[.slice A n c, .int .i64 (codeR xs : Nat)]) ∧ RowP w' A n (outR xs) ∧ n ≤ c ∧ Below w.heap.size w w'
theorem OutBR.bad {xs : List Int} {w w' : World} {c : Nat} (h : codeR xs = c ∧ outR xs = []) (hc : c ≠ 0) (hb : Below w.heap.size w w') : OutBR xs w (.returned (.tuple #[.slice none 0 0, .int .i64 c])) w' :=
  ⟨none, 0, 0, by rw [h.1], by rw [h.2]; exact RowP.nil, Nat.le_refl _, hb⟩
theorem OutBR.good {xs : List Int} {w w' : World} {l : List (List Int)} {e : TypeId} {v : Value} {k : Nat} (h : codeR xs = 0 ∧ outR xs = l) (hP : OwnP w' w.heap.size e v k l) (hk : k ≤ 1000000000) (hb : Below w.heap.size w w') : OutBR xs w (.returned (.tuple #[v, .int .i64 0])) w' := by
  obtain ⟨A, c, rfl, hr, hc⟩ := hP.row (by unfold maxLen; omega)
  exact ⟨A, k, c, by rw [h.1]; rfl, by rw [h.2]; exact hr, hc, hb⟩
theorem low15_nat : ∀ n : Nat, n < 256 → bits .and .u8 (n : Int) 15 = (n : Int) % 16 := by decide +kernel
theorem low15 (v : Int) (h : 0 ≤ v ∧ v ≤ 255) : bits .and .u8 v 15 = v % 16 := by
  obtain ⟨m, rfl⟩ := Int.eq_ofNat_of_zero_le h.1
  exact low15_nat m (by omega)
/-- of a delimiter, each way that it is none. -/
theorem codeD_106 {r : List Int} (h4 : 4 ≤ r.length) (h : sum (r.take 2) ≠ r.getD 2 0) : codeD r = 106 := by unfold codeD; rw [if_neg (by omega), if_pos h]
theorem codeD_102 {r : List Int} (h4 : 4 ≤ r.length) (h : sum (r.take 2) = r.getD 2 0) (h3 : r.getD 3 0 ≠ 78 ∨ r.getD 0 0 % 16 ≠ 0 ∨ lenD r = 0) : codeD r = 102 := by
  unfold codeD; rw [if_neg (by omega), if_neg (by simp only [Decidable.not_not]; exact h), if_pos h3]
theorem codeD_101 {r : List Int} (h4 : 4 ≤ r.length) (h : sum (r.take 2) = r.getD 2 0) (h3 : ¬ (r.getD 3 0 ≠ 78 ∨ r.getD 0 0 % 16 ≠ 0 ∨ lenD r = 0)) (h5 : r.length < 4 + lenD r) : codeD r = 101 := by
  unfold codeD; rw [if_neg (by omega), if_neg (by simp only [Decidable.not_not]; exact h), if_neg h3, if_pos h5]
theorem codeD_0 {r : List Int} (h4 : 4 ≤ r.length) (h : sum (r.take 2) = r.getD 2 0) (h3 : ¬ (r.getD 3 0 ≠ 78 ∨ r.getD 0 0 % 16 ≠ 0 ∨ lenD r = 0)) (h5 : ¬ r.length < 4 + lenD r) : codeD r = 0 := by
  unfold codeD; rw [if_neg (by omega), if_neg (by simp only [Decidable.not_not]; exact h), if_neg h3, if_neg h5]

set_option maxRecDepth 100000 in
set_option maxHeartbeats 8000000 in
theorem refparts_any (A : Option Addr) (n c : Nat) (xs : List Int) (w : World) (h : RowB .u8 w A n xs) (hnc : n ≤ c) (hn : n ≤ 100000000) :
    Calls Tryd.prog 13 #[.slice A n c] w fun e w' => OutBR xs w e w' := by
  rcases Nat.eq_zero_or_pos n with h0 | hp
  · subst h0
    have hx : xs = [] := List.eq_nil_of_length_eq_zero h.len
    have HC := Lib.hid (show codeR xs = 102 ∧ outR xs = [] by rw [hx]; exact ⟨rfl, rfl⟩)
    clear h hx
    go_enter Tryd.func13, Tryd.ntmps13
    go_wp2
    go_ret2
    exact OutBR.bad HC.out (by decide) (Below.refl _ _)
  obtain ⟨b, off, rfl, -⟩ := h.cells hp
  have HR := Lib.hid h
  have HL := Lib.hid h.len
  have HNE := Lib.hid (show xs ≠ [] from fun e => by have := h.len; rw [e] at this; simp at this; omega)
  have hn0 : ((n : Int) == 0) = false := by simp; omega
  clear h
  go_enter Tryd.func13, Tryd.ntmps13
  go_wp2
  go_loopw [4, 5] (fun v i wr => ∃ (t k : Nat) (out : List (List Int)), t ≤ n ∧ (t % 4 = 0 ∨ t = n) ∧ k ≤ t ∧ i = .int .i64 t ∧ OwnP wr w.heap.size 23 v k out ∧ comb out (partsR (xs.drop t)) = partsR xs ∧ Below w.heap.size w wr) (fun _ i _ => n - (intOf i).toNat)
  case atStart => exact ⟨0, 0, [], by omega, .inl rfl, by omega, rfl, OwnP.nil _ _ _, by rw [List.drop_zero]; exact comb_nil _ (parts_zero _), Below.refl _ _⟩
  case round =>
    obtain ⟨t, k, out, ht, hm, hk, rfl, hown, hinv, hbel⟩ := hrel
    have HP := Lib.hid hown
    have HI := Lib.hid hinv
    have HB := Lib.hid hbel
    have HM := Lib.hid hm
    clear hown hinv hbel hm
    have HKK := Lib.hid (show out.length = k by obtain ⟨_, _, h, _⟩ := HP.out; exact h)
    by_cases hlt : t < n
    case neg =>
      have e : t = n := by omega
      have HEND := Lib.hid (show partsR xs = (0, out) by rw [← HI.out, e, List.drop_of_length_le (by rw [HL.out]; omega), parts_nil, comb_good, List.append_nil])
      have HG := Lib.hid (codeR_good HNE.out HEND.out)
      rw [HKK.out, HL.out] at HG
      subst e
      cases e1 : decide ((64 : Int) < (k : Int))
      case true =>
        have e1' : decide (64 < k) = true := by simp at e1 ⊢; omega
        have HC := Lib.hid (show codeR xs = 104 ∧ outR xs = [] by have := HG.out; rw [show manyB (k : Int) (t : Int) = true by unfold manyB; rw [e1]; rfl] at this; exact this)
        obtain ⟨A1, c1, hv, -, -⟩ := HP.out.row (by unfold maxLen; omega)
        subst hv
        go_wp2
        go_ret2
        exact OutBR.bad HC.out (by decide) HB.out
      have e1' : decide (64 < k) = false := by simp at e1 ⊢; omega
      cases e2 : decide ((65535 : Int) < (t : Int))
      case true =>
        have e2' : decide (65535 < t) = true := by simp at e2 ⊢; omega
        have HC := Lib.hid (show codeR xs = 104 ∧ outR xs = [] by have := HG.out; rw [show manyB (k : Int) (t : Int) = true by unfold manyB; rw [e1, e2]; rfl] at this; exact this)
        obtain ⟨A1, c1, hv, -, -⟩ := HP.out.row (by unfold maxLen; omega)
        subst hv
        go_wp2
        go_ret2
        exact OutBR.bad HC.out (by decide) HB.out
      have e2' : decide (65535 < t) = false := by simp at e2 ⊢; omega
      have HC := Lib.hid (show codeR xs = 0 ∧ outR xs = out by have := HG.out; rw [show manyB (k : Int) (t : Int) = false by unfold manyB; rw [e1, e2]; rfl] at this; exact this)
      obtain ⟨A1, c1, hv, -, -⟩ := HP.out.row (by unfold maxLen; omega)
      subst hv
      go_wp2
      go_ret2
      exact OutBR.good HC.out HP.out (by omega) HB.out
    have hdr : xs.drop t ≠ [] := fun e => by have := congrArg List.length e; rw [List.length_drop, HL.out] at this; simp at this; omega
    have HBAD := Lib.hid (show ∀ c : Nat, c ≠ 0 → codeD (xs.drop t) = c → codeR xs = c ∧ outR xs = [] from fun c hc h => codeR_bad HNE.out (by
      rw [← HI.out, partsR_eq hdr, partsS_bad (by rw [h]; exact hc), h]; exact comb_bad _ hc) hc)
    have HRS := Lib.hid (partsR_eq hdr)
    clear hdr
    by_cases h4 : n < t + 4
    · have d4 : decide ((n : Int) - (t : Int) < 4) = true := by simp; omega
      have HC := Lib.hid (HBAD.out 101 (by decide) (codeD_few (by rw [List.length_drop, HL.out]; omega)))
      go_wp2
      go_ret2
      exact OutBR.bad HC.out (by decide) HB.out
    have d4 : decide ((n : Int) - (t : Int) < 4) = false := by simp; omega
    have d4' : decide ((n : Int) - (t : Int) ≤ 3) = false := by simp; omega
    have htc : t < c := by omega
    have h4c : t + 4 ≤ c := by omega
    have ht4 : t + 4 - t = 4 := by omega
    have HD := Lib.hid (drop_row (HR.out.below HB.out) t ht)
    have c0 := HD.out.at_ 0 (by omega)
    rw [Nat.add_zero] at c0
    have c1 := HD.out.at_ 1 (by omega)
    have c2 := HD.out.at_ 2 (by omega)
    have c3 := HD.out.at_ 3 (by omega)
    have W0 := Lib.hid (HD.out.wf8 0 (by omega))
    have W1 := Lib.hid (HD.out.wf8 1 (by omega))
    have HLD := Lib.hid (show ((xs.drop t).getD 0 0 + (xs.drop t).getD 1 0 * 256) / 16 = ((lenD (xs.drop t) : Nat) : Int) by
      have := W0.out; have := W1.out
      unfold lenD; omega)
    have hLb : lenD (xs.drop t) ≤ 4095 := by
      have := W0.out; have := W1.out
      unfold lenD; omega
    have HDL := Lib.hid (show (xs.drop t).length = n - t by rw [List.length_drop, HL.out])
    have H106 := Lib.hid (codeD_106 (r := xs.drop t) (by rw [HDL.out]; omega))
    have H102 := Lib.hid (codeD_102 (r := xs.drop t) (by rw [HDL.out]; omega))
    have H101 := Lib.hid (codeD_101 (r := xs.drop t) (by rw [HDL.out]; omega))
    have H0 := Lib.hid (codeD_0 (r := xs.drop t) (by rw [HDL.out]; omega))
    have HQ := Lib.hid (fun m => quiet_eq (refsum_any (some ⟨b, off + t, none⟩) 2 (c - t) ((xs.drop t).take 2) (wr.drewN m) ((HD.out.first 2 (by omega)).drewN m)))
    have HF4 := Lib.hid (HD.out.first 4 (by omega))
    have HT0 := Lib.hid (show ((xs.drop t).take 4).getD 0 0 = (xs.drop t).getD 0 0 ∧ ((xs.drop t).take 4).getD 1 0 = (xs.drop t).getD 1 0 by simp [List.getD])
    clear HD
    obtain ⟨L, hL⟩ : ∃ L, L = lenD (xs.drop t) := ⟨_, rfl⟩
    have HLL := Lib.hid hL.symm
    rw [← hL] at H102 H101 H0 HLD hLb
    clear hL
    generalize (xs.drop t).getD 0 0 = v0 at *
    generalize (xs.drop t).getD 1 0 = v1 at *
    generalize (xs.drop t).getD 2 0 = v2 at *
    generalize (xs.drop t).getD 3 0 = v3 at *
    generalize sum ((xs.drop t).take 2) = sm at *
    cases efit : (sm != v2)
    case true =>
      have HC := Lib.hid (HBAD.out 106 (by decide) (H106.out (by simpa using efit)))
      clear W0 W1 HLD
      go_wp2
      go_quiet ((go_at_call 30; exact HQ.out _))
      go_wp2
      go_ret2
      exact OutBR.bad HC.out (by decide) (below_drewN HB.out _)
    have hfit : sm = v2 := by simpa using efit
    have H102 := Lib.hid (H102.out hfit)
    have H101 := Lib.hid (H101.out hfit)
    have H0 := Lib.hid (H0.out hfit)
    clear H106 hfit
    go_wp2
    go_quiet ((go_at_call 30; exact HQ.out _))
    go_wp2_with (fail)
    refine (num_any b (off + t) 4 (c - t) ((xs.drop t).take 4) _ (HF4.out.drewN _) (by omega)).mono ?_
    rintro e w' ⟨rfl, m2, rfl⟩
    rw [HT0.out.1, HT0.out.2]
    have HB2 := Lib.hid (show Below w.heap.size w ((wr.drewN nq).drewN m2) from below_drewN (below_drewN HB.out _) _)
    have HP2 := Lib.hid (show OwnP ((wr.drewN nq).drewN m2) w.heap.size 23 u4 k out from (HP.out.drewN _).drewN _)
    have c0' : ((wr.drewN nq).drewN m2).cell? ⟨b, off + t, none⟩ = some (.int .u8 v0) := c0
    have c3' : ((wr.drewN nq).drewN m2).cell? ⟨b, off + t + 3, none⟩ = some (.int .u8 v3) := c3
    clear c0 c1 c2 c3 HB HP HQ HF4 HT0
    generalize (wr.drewN nq).drewN m2 = w2 at *
    have y4 : (v0 + v1 * 256) / 16 = (L : Int) := HLD.out
    have y6 : (0 : Int) ≤ v0 + v1 * 256 := by have := W1.out; have := W0.out; omega
    have y15 := low15 v0 W0.out
    have w0a := W0.out
    cases e3 : (v3 != 78)
    case true =>
      have HC := Lib.hid (HBAD.out 102 (by decide) (H102.out (.inl (by simpa using e3))))
      go_wp2
      go_ret2
      exact OutBR.bad HC.out (by decide) HB2.out
    cases e0 : (v0 % 16 != 0)
    case true =>
      have HC := Lib.hid (HBAD.out 102 (by decide) (H102.out (.inr (.inl (by simpa using e0)))))
      go_wp2
      go_ret2
      exact OutBR.bad HC.out (by decide) HB2.out
    by_cases hz : L = 0
    · subst hz
      have HC := Lib.hid (HBAD.out 102 (by decide) (H102.out (.inr (.inr rfl))))
      go_wp2
      go_ret2
      exact OutBR.bad HC.out (by decide) HB2.out
    have hz1 : ((L : Int) == 0) = false := by simp; omega
    have hno : ¬ (v3 ≠ 78 ∨ v0 % 16 ≠ 0 ∨ L = 0) := by
      simp only [not_or, Decidable.not_not]
      exact ⟨by simpa using e3, by simpa using e0, hz⟩
    have H101 := Lib.hid (H101.out hno)
    have H0 := Lib.hid (H0.out hno)
    rw [HDL.out] at H101 H0
    clear hno H102
    by_cases hlen : n - t < 4 + L
    · have d5 : decide ((n : Int) - ((t : Int) + 4) < (L : Int)) = true := by simp; omega
      have HC := Lib.hid (HBAD.out 101 (by decide) (H101.out hlen))
      go_wp2
      go_ret2
      exact OutBR.bad HC.out (by decide) HB2.out
    have d5 : decide ((n : Int) - ((t : Int) + 4) < (L : Int)) = false := by simp; omega
    have HCD := Lib.hid (H0.out hlen)
    have HPC := Lib.hid (fun (w' : World) (hB : Below w.heap.size w w') => piece (HR.out.below hB) (t + 4) L (by omega))
    have HPW0 := Lib.hid (fun i hi => (HPC.out w (Below.refl _ _)).wf8 i hi)
    obtain ⟨P, hPP⟩ : ∃ P, P = (xs.drop (t + 4)).take L := ⟨_, rfl⟩
    rw [← hPP] at HPC HPW0
    have HPE := Lib.hid hPP
    have HPW := HPW0
    clear hPP HPW0
    obtain ⟨T, hT⟩ : ∃ T : Nat, (t : Int) + 4 + (L : Int) = (T : Int) := ⟨t + 4 + L, by omega⟩
    have hT1 : T ≤ n := by omega
    have hT2 : T - (t + 4) = L := by omega
    have HT := Lib.hid (show T = t + 4 + L by omega)
    clear hlen H101 H0 d4 d4'
    go_wp2_with (fail)
    refine (bytes_any (some ⟨b, off + (t + 4), none⟩) L (c - (t + 4)) P w2 (HPC.out w2 HB2.out) (by omega)).mono ?_
    rintro e w3 ⟨g3, cap3, rfl, hO3, hB3⟩
    have HE := Lib.hid (ElP.of_own HP2.out hO3 HPW.out)
    have HB3 := Lib.hid (HB2.out.trans (hB3.mono HB2.out.size))
    have HP3 := Lib.hid (HP2.out.below hB3)
    clear hO3 hB3 HB2 HP2 c0' c3'
    have HRD := Lib.hid (show (xs.drop t).drop (4 + L) = xs.drop T by rw [List.drop_drop, HT.out, Nat.add_assoc])
    have HRL := Lib.hid (show (xs.drop T).length = n - T by rw [List.length_drop, HL.out])
    have HPT := Lib.hid (show (xs.drop (t + 4)).take L = P from HPE.out.symm)
    obtain ⟨q, hq⟩ : ∃ q, q = pad L := ⟨_, rfl⟩
    have HQP := Lib.hid hq.symm
    have hq3 : q ≤ 3 := by unfold pad at hq; omega
    have HQM := Lib.hid (show ∀ x, T ≤ x → x ≤ T + q → x % 4 = 0 → t % 4 = 0 → x = T + q from fun x h1 h2 h3 h4 => by unfold pad at hq; have := HT.out; omega)
    have HQ4 := Lib.hid (show t % 4 = 0 → (T + q) % 4 = 0 from fun h => by unfold pad at hq; have := HT.out; omega)
    clear hq
    have HTM := Lib.hid (show t % 4 = 0 by rcases HM.out with h | h; exact h; omega)
    have HZB := Lib.hid (show ∀ M, T ≤ M → M < n → M < T + q → xs.getD M 0 ≠ 0 → codeR xs = 102 ∧ outR xs = [] from fun M h1 h2 h3 h4 => codeR_bad HNE.out (by
      rw [← HI.out, HRS.out, partsS_zero HCD.out]
      · exact comb_bad _ (by decide)
      · rw [HLL.out, HRD.out, HQP.out, codeZ_bad (i := M - T) (by omega) (by rw [HRL.out]; omega) (by rw [drop_getD, show T + (M - T) = M by omega]; exact h4)]
        decide) (by decide))
    have HZG := Lib.hid (show ∀ M, (∀ i, T ≤ i → i < M → xs.getD i 0 = 0) → T ≤ M → (T + q ≤ M ∨ n ≤ M) → codeZ ((xs.drop t).drop (4 + lenD (xs.drop t))) (pad (lenD (xs.drop t))) = 0 from fun M h1 h2 h3 => by
      rw [HLL.out, HRD.out, HQP.out]
      refine codeZ_good fun i hi => ?_
      rw [HRL.out] at hi
      rw [drop_getD]
      exact h1 (T + i) (by omega) (by omega))
    have HSH := Lib.hid (show ∀ M, (∀ i, T ≤ i → i < M → xs.getD i 0 = 0) → T < M → M = n → M ≤ T + q → codeR xs = 101 ∧ outR xs = [] from fun M h1 h2 h3 h4 => codeR_bad HNE.out (by
      rw [← HI.out, HRS.out, partsS_short HCD.out (HZG.out M h1 (by omega) (.inr (by omega))) (by rw [HLL.out, HRD.out, HRL.out, HQP.out]; omega)]
      exact comb_bad _ (by decide)) (by decide))
    have HON := Lib.hid (show ∀ M, (∀ i, T ≤ i → i < M → xs.getD i 0 = 0) → T ≤ M → M ≤ n → (M = T ∨ M < n) → (M = T + q ∨ M = n) → comb (out ++ [P]) (partsR (xs.drop M)) = partsR xs from fun M h1 h2 h3 h4 h5 => by
      rw [← HI.out, HRS.out, partsS_on HCD.out (HZG.out M h1 h2 (by omega)) (by rw [HLL.out, HRD.out, HRL.out, HQP.out]; omega), comb_comb, HLL.out, HQP.out, List.drop_drop, List.drop_drop, HPT.out]
      congr 2
      rcases h5 with h5 | h5
      · rw [h5, HT.out]; congr 1; omega
      · rw [h5, List.drop_of_length_le (by rw [HL.out]; omega), List.drop_of_length_le (by rw [HL.out]; have := HT.out; omega)])
    clear HRD HRL HPT HCD HLL HLD HDL HRS HBAD
    have HTT := Lib.hid (show t < T by have := HT.out; omega)
    go_wp2_with (first | (refine app_part rfl (.tmp 58) (.tmp 66) rfl w.heap.size k u4 out rfl (HP3.out.below ((Below.refl w3.heap.size w3).alloc (Nat.le_refl _) _)) (.slice (some ⟨g3, 0, none⟩) L cap3) P (HE.out.keep (fun k _ hk => ((Below.refl w3.heap.size w3).alloc (Nat.le_refl _) _).block k hk)) ⟨w3.heap.size, 0, none⟩ 1 rfl (cell_one_new _ _ _ 0 _ rfl) (by omega) (by have := HB3.out.size; simp; omega) ?_; intro g5 cap5 w5 hP5 hb5; have HP5 := hP5; have HB5 := Lib.hid ((HB3.out.alloc HB3.out.size _).trans hb5.out); clear hP5 hb5 HP3 HB3 HE))
    go_loop [5] (fun v => ∃ M : Nat, v = .int .i64 M ∧ T ≤ M ∧ M ≤ n ∧ M ≤ T + q ∧ (∀ i, T ≤ i → i < M → xs.getD i 0 = 0) ∧ (M = T ∨ M < n)) (fun v => n - (intOf v).toNat)
    case atStart => exact ⟨T, rfl, by omega, by omega, by omega, fun i h1 h2 => by omega, .inl rfl⟩
    case round =>
      obtain ⟨M, rfl, hM1, hM2, hM3, hall, hM4⟩ := hrel
      have HA := Lib.hid hall
      have H4 := Lib.hid hM4
      clear hall hM4
      by_cases hex : M % 4 = 0 ∨ M = n
      · have HX := Lib.hid (HON.out M HA.out hM1 hM2 H4.out (by
          rcases hex with h | h
          · exact .inl (HQM.out M hM1 hM3 h HTM.out)
          · exact .inr h))
        have HX4 := Lib.hid hex
        by_cases hmod : M % 4 = 0
        · have dz : ((M : Int) % 4 != 0) = false := by simp; omega
          go_wp2
          go_roundw
          case rel => exact ⟨M, k + 1, out ++ [P], hM2, .inl hmod, by have := HTT.out; omega, by go_num, HP5.out, HX.out, HB5.out⟩
          case measure => have := HTT.out; simp [intOf]; omega
        · have dz : ((M : Int) % 4 != 0) = true := by simp; omega
          have hMn : M = n := by omega
          have dn : decide ((M : Int) < (n : Int)) = false := by simp; omega
          have dn' : decide (M < n) = false := by simp; omega
          have HMN := Lib.hid hMn
          clear hMn hex
          go_wp2
          go_roundw
          case rel => exact ⟨M, k + 1, out ++ [P], hM2, .inr HMN.out, by have := HTT.out; omega, by go_num, HP5.out, HX.out, HB5.out⟩
          case measure => have := HTT.out; simp [intOf]; omega
      · have hmod : ¬ M % 4 = 0 := fun h => hex (.inl h)
        have hMn : M < n := by omega
        have dz : ((M : Int) % 4 != 0) = true := by simp; omega
        have dn : decide ((M : Int) < (n : Int)) = true := by simp; omega
        have hMq : M < T + q := by
          rcases Nat.lt_or_ge M (T + q) with h | h
          · exact h
          · exact absurd (show M % 4 = 0 by rw [show M = T + q by omega]; exact HQ4.out HTM.out) hmod
        have hc := (HR.out.below HB5.out).at_ M hMn
        have HV := Lib.hid (HZB.out M hM1 hMn hMq)
        have HN := Lib.hid (show xs.getD M 0 = 0 → ∀ i, T ≤ i → i < M + 1 → xs.getD i 0 = 0 from fun h i h1 h2 => by
          rcases Nat.lt_or_ge i M with h3 | h3
          · exact HA.out i h1 h3
          · rw [show i = M by omega]; exact h)
        clear hex hmod
        generalize xs.getD M 0 = v at *
        cases ev : (v != 0)
        case true =>
          have HC := Lib.hid (HV.out (by simpa using ev))
          go_wp2
          go_ret2
          exact OutBR.bad HC.out (by decide) HB5.out
        have HN := Lib.hid (HN.out (by simpa using ev))
        by_cases hend : M + 1 = n
        · have de : ((M : Int) + 1 == (n : Int)) = true := by simp; omega
          have HC := Lib.hid (HSH.out (M + 1) HN.out (by omega) hend (by omega))
          clear hend
          go_wp2
          go_ret2
          exact OutBR.bad HC.out (by decide) HB5.out
        · have de : ((M : Int) + 1 == (n : Int)) = false := by simp; omega
          go_wp2
          go_round
          case rel => exact ⟨M + 1, by go_num, by omega, by omega, by omega, HN.out, .inr (by omega)⟩
          case measure => simp [intOf]; omega
end Go.Proofs.YtejdmpdbapfomaaDoor
