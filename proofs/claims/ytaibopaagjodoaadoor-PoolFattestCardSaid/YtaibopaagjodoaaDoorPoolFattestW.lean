/-
  The walk of muezzin/muezzinlaw14.PoolFattest: the Go text returns true.
-/
import Derived.Test.YtaibopaagjodoaaDoorPoolX
import Derived.Test.YtaibopaagjodoaaDoorPoolH
import Derived.Test.YtaibopaagjodoaaDoorErrP
import Derived.WalkKit
import Derived.ProofKit
import Derived.Below
namespace Go.Proofs.YtaibopaagjodoaaDoor.poolFattest
open Go.ChangeShapes Go.WideShapes Go.ChangeAt Go.RowKit Go.Deep
set_option linter.unusedVariables false
set_option linter.unusedSimpArgs false


open Go.Proofs.YtaibopaagjodoaaDoor
def hdF (n : Nat) : Hd := ⟨3#32, 50, 1000, (n : Int), 1048576⟩
theorem fat_one {n : Nat} (hn : 4 ≤ n) {ds : List Pk} {M' : Nat → Qu} (hR : Shr (n : Int) 1048576 (updF (mOf X0) 0 (putQ (bkQ 3#32) (mOf X0 0) pF1)) ds M') : M' = updF M0 0 (putQ (bkQ 3#32) quZ pF1) ∧ (allP M' 128).length = 1 := by
  have hp := allP_put (bkQ_lt 3#32) (mOf X0) (k := 0) (by omega) pF1
  have e0 : allP (mOf X0) 128 = [] := allP_M0 128
  rw [e0] at hp
  have h1 := hp.length_eq
  have h2 := bytesF_perm hp
  rw [bytesF_cons] at h2
  have h3 : bytesF [] = 0 := rfl
  have h4 : ((pF1).body.length : Int) = 10 := congrArg (fun (n : Nat) => (n : Int)) (zer_len 10)
  obtain ⟨-, rfl⟩ := shr_none hR (by rw [h1]; simp; omega) (by rw [h2]; omega)
  exact ⟨rfl, h1⟩
theorem fat_two {n K t : Nat} (hn : 4 ≤ n) (hK : 0 < K ∧ K < 128) {ds : List Pk} {M M' : Nat → Qu} (hM : M = updF M0 0 (putQ (bkQ 3#32) quZ pF1)) (hR : Shr (n : Int) 1048576 (updF M K (putQ (bkQ 3#32) (M K) (pF2 t))) ds M') : FatI K t 3 0 M' := by
  subst hM
  have e0 : updF M0 0 (putQ (bkQ 3#32) quZ pF1) K = quZ := by rw [updF_other _ _ (by omega)]; rfl
  rw [e0] at hR
  have h := fat_start (t := t) hK
  obtain ⟨-, rfl⟩ := shr_none hR (by rw [h.len]; omega) (by rw [h.byt]; omega)
  exact h
theorem fat_has {K t lo cnt : Nat} {M : Nat → Qu} (hK : 0 < K ∧ K < 128) (h : FatI K t lo cnt M) : allQ (M 0) ≠ [] ∧ allQ (M K) ≠ [] := by
  constructor
  · have h1 := h.pk 0 (by omega) (bkQ 3#32 0)
    rw [flowF_1 rfl rfl] at h1
    have h2 : pF1 ∈ allQ (M 0) := mem_all 16 bk3.1 (by rw [h1]; exact List.mem_cons_self)
    intro e; rw [e] at h2; cases h2
  · have h1 := h.pk K hK.2 (bkQ 3#32 8)
    rw [flowF_2 hK.1 rfl rfl] at h1
    have h2 : pF2 t ∈ allQ (M K) := mem_all 16 bk3.2.1 (by rw [h1]; exact List.mem_cons_self)
    intro e; rw [e] at h2; cases h2

/-! ### THE WALK -/
set_option maxRecDepth 100000 in
set_option maxHeartbeats 8000000 in
theorem walk (n0 : Int) (n1 : Int) (n2 : Int) (w : World) (E : Nat → Addr) (hS : Sent w E [103]) (w0 : (Lit.int .i64 n0).wf = true) (w1 : (Lit.int .i64 n1).wf = true) (w2 : (Lit.int .i64 n2).wf = true) :
    Calls Tryd.prog 4 #[.int .i64 n0, .int .i64 n1, .int .i64 n2] w fun e w' => e = .returned (.bool true) ∧ Below w.heap.size w w' := by
  have W0 := Shut.mk w0
  have W1 := Shut.mk w1
  have W2 := Shut.mk w2
  clear w0 w1 w2 hS
  obtain ⟨i0, hi0, hz0, hz1, hz2⟩ := info_parts' byte_info
  go_enter Tryd.func4, Tryd.ntmps4
  go_wp2_with (fail)
  refine (first_p_any w).mono ?_
  rintro e wa ⟨rfl, hBa⟩
  have HBa := Shut.mk hBa
  clear hBa
  go_wp2_with (fail)
  refine (number_any n0 12 wa W0.out (by decide) (by decide)).mono ?_
  rintro e wn ⟨rfl, rfl⟩
  have hm0 := nmod_lo n0 12 (by decide)
  have hm1 := nmod_hi n0 12 (by decide)
  obtain ⟨m, hm⟩ := Int.eq_ofNat_of_zero_le hm0
  rw [hm] at hm1 ⊢
  clear hm0 hm
  have hm12 : m < 12 := by omega
  clear hm1
  go_wp2_with (fail)
  refine (number_any n1 15 wa W1.out (by decide) (by decide)).mono ?_
  rintro e wn ⟨rfl, rfl⟩
  have hm0 := nmod_lo n1 15 (by decide)
  have hm1 := nmod_hi n1 15 (by decide)
  obtain ⟨q, hq⟩ := Int.eq_ofNat_of_zero_le hm0
  rw [hq] at hm1 ⊢
  clear hm0 hq
  have hq15 : q < 15 := by omega
  clear hm1
  go_wp2_with (fail)
  refine (number_any n2 8 wa W2.out (by decide) (by decide)).mono ?_
  rintro e wn ⟨rfl, rfl⟩
  have hm0 := nmod_lo n2 8 (by decide)
  have hm1 := nmod_hi n2 8 (by decide)
  obtain ⟨t, ht⟩ := Int.eq_ofNat_of_zero_le hm0
  rw [ht] at hm1 ⊢
  clear hm0 ht
  have ht8 : t < 8 := by omega
  clear hm1
  go_wp2_with (fail)
  obtain ⟨n, hn⟩ : ∃ n : Nat, n = m + 4 := ⟨_, rfl⟩
  obtain ⟨a, ha⟩ : ∃ a : Nat, a = q + 1 := ⟨_, rfl⟩
  rw [show (m : Int) + 4 = (n : Int) by omega, show (q : Int) + 2 = (a : Int) + 1 by omega]
  have hn4 : 4 ≤ n ∧ n < 16 := by omega
  have ha1 : 1 ≤ a ∧ a < 16 := by omega
  clear hn ha hm12 hq15
  obtain ⟨K, hK⟩ : ∃ K, K = 8 * a + t := ⟨_, rfl⟩
  have HKK := Shut.mk hK
  have HK := Shut.mk (show 0 < K ∧ K < 128 by omega)
  clear hK
  refine (new_p_any (hdF n) wa (show (1 : Int) ≤ (n : Int) ∧ (n : Int) ≤ 512 by omega) ⟨show (1 : Int) ≤ 1048576 by decide, show (1048576 : Int) ≤ 1048576 by decide⟩).mono ?_
  rintro e wb ⟨rfl, hP, hB⟩
  have hpw := PW.start HBa.out rfl hP hB
  obtain ⟨g, hg⟩ : ∃ g, g = wa.heap.size := ⟨_, rfl⟩
  rw [← hg] at hpw ⊢
  have HP := Shut.mk hpw
  have HMP := Shut.mk (show 1 ≤ (hdF n).mp ∧ 1 ≤ (hdF n).mb from ⟨show (1 : Int) ≤ (n : Int) by omega, show (1 : Int) ≤ 1048576 by decide⟩)
  clear hP hB hpw hg
  go_wp2_with (at_make; refine wpList_make_full _ rfl _ _ 32 rfl wb.heap.size 5 i0 (.int .u8 0) 1 Tryd.underlying32 hi0 hz0 hz1 _ _ _ _ 10 rfl rfl (by omega) (by omega) (by rw [hz2]; omega) (by unfold maxLen; omega) (Nat.le_refl _) ?_; intro w3 hown1 hgrow1)
  have HB3 := Shut.mk ((Below.refl wb.heap.size wb).grown hgrow1 (Nat.le_refl _) (by simp))
  have HR3 := Shut.mk (zer_row hown1)
  have HNB := Shut.mk (show ∀ i, FootP g X0 i → i < wb.heap.size from fun i hi => HP.out.is.lts hi)
  clear hown1 hgrow1
  refine (pput (HP.out.quiet HB3.out) HMP.out 0 0 (by decide) (by decide) 1 0 rfl rfl 1 0 0 (zer 10) _ 10 10 HR3.out (by omega) ⟨by decide, by decide⟩ ⟨by decide, by decide⟩ (by rw [mOf_X0, allP_M0]; exact Nat.zero_le _) (fun _ p hp e => by cases hp; exact absurd (HNB.out _ e) (Nat.lt_irrefl _))).mono ?_
  rintro e w4 ⟨u, T1, T2, X1, ds, rfl, hPW, -, -, -, -, hR⟩
  have h1 := fat_one hn4.1 hR
  have HP1 := Shut.mk hPW
  have HM1 := Shut.mk h1.1
  have HL1 := Shut.mk h1.2
  clear hPW hR h1 HR3 HNB
  go_wp2_with (at_make; refine wpList_make_full _ rfl _ _ 32 rfl w4.heap.size 5 i0 (.int .u8 0) 1 Tryd.underlying32 hi0 hz0 hz1 _ _ _ _ 20 rfl rfl (by omega) (by omega) (by rw [hz2]; omega) (by unfold maxLen; omega) (Nat.le_refl _) ?_; intro w5 hown1 hgrow1)
  have HB5 := Shut.mk ((Below.refl w4.heap.size w4).grown hgrow1 (Nat.le_refl _) (by simp))
  have HR5 := Shut.mk (zer_row hown1)
  have HNB := Shut.mk (show ∀ i, FootP g X1 i → i < w4.heap.size from fun i hi => HP1.out.is.lts hi)
  clear hown1 hgrow1
  refine (pput (HP1.out.quiet HB5.out) HMP.out a t ha1.2 ht8 _ _ rfl rfl 2 8 0 (zer 20) _ 20 20 HR5.out (by omega) ⟨by decide, by decide⟩ ⟨by decide, by decide⟩ (by rw [HL1.out]; omega) (fun _ p hp e => by cases hp; exact absurd (HNB.out _ e) (Nat.lt_irrefl _))).mono ?_
  rintro e w6 ⟨u, T3, T4, X2, ds, rfl, hPW, -, -, -, -, hR⟩
  rw [← HKK.out] at hR
  have HP2 := Shut.mk hPW
  have HF2 := Shut.mk (fat_two hn4.1 HK.out HM1.out hR)
  clear hPW hR HP HP1 HNB HR5 HB5 HB3 HM1 HL1
  go_wp2_with (fail)
  go_loopw [10] (fun fi wr => ∃ (i : Nat) (T : Nat → Prop) (X : Nat → Option Qs), 3 ≤ i ∧ i ≤ n + 8 ∧ fi = .int .i64 i ∧ PW w g (hdF n) T wr X ∧ FatI K t (i - min (i - 3) (n - 2)) (min (i - 3) (n - 2)) (mOf X)) (fun fi _ => n + 8 - (intOf fi).toNat)
  case atStart => exact ⟨3, _, _, by omega, by omega, rfl, HP2.out, by rw [show min (3 - 3) (n - 2) = 0 by omega]; exact HF2.out⟩
  case round =>
    clear HP2 HF2
    obtain ⟨i, T, X, hi3, hin, rfl, hpw, hf⟩ := hrel
    have HP := Shut.mk hpw
    have HF := Shut.mk hf
    clear hpw hf
    by_cases hlt : i < n + 8
    · have hlti : (i : Int) < (n : Int) + 8 := by omega
      have HLEN := Shut.mk (show (allP (mOf X) 128).length ≤ 900 by rw [HF.out.len]; omega)
      go_wp2_with (at_make; refine wpList_make_full _ rfl _ _ 32 rfl wr.heap.size 5 i0 (.int .u8 0) 1 Tryd.underlying32 hi0 hz0 hz1 _ _ _ _ 400 rfl rfl (by omega) (by omega) (by rw [hz2]; omega) (by unfold maxLen; omega) (Nat.le_refl _) ?_; intro w3 hown1 hgrow1)
      have HB3 := Shut.mk ((Below.refl wr.heap.size wr).grown hgrow1 (Nat.le_refl _) (by simp))
      have HR3 := Shut.mk (zer_row hown1)
      have HNB := Shut.mk (show ∀ i, FootP g X i → i < wr.heap.size from fun i hi => HP.out.is.lts hi)
      clear hown1 hgrow1
      refine (pput (HP.out.quiet HB3.out) HMP.out a t ha1.2 ht8 _ _ rfl rfl (i : Int) 9 0 (zer 400) _ 400 400 HR3.out (by omega) ⟨by decide, by decide⟩ ⟨by decide, by decide⟩ HLEN.out (fun _ p hp e => by cases hp; exact absurd (HNB.out _ e) (Nat.lt_irrefl _))).mono ?_
      rintro e w6 ⟨u, T3, T4, X2, ds, rfl, hPW, -, hO, -, -, hR⟩
      rw [← HKK.out] at hR
      have HP2 := Shut.mk hPW
      have HB8 := Shut.mk (show bkt 8#32 3#32 = 12 by decide)
      have HB9 := Shut.mk (show bkt 9#32 3#32 = 4 by decide)
      have hne : ((12 : Int) == 4) = false := by decide
      rcases fat_turn HK.out hn4.1 hi3 rfl HF.out (by omega) hR with ⟨hle, rfl, hfn⟩ | ⟨hgt, rfl, hfn⟩
      · have HFN := Shut.mk hfn
        obtain ⟨l', hl1, -⟩ := hO
        obtain ⟨A, c, hl, -⟩ := owns_form hl1.1
        rw [List.length_nil] at hl
        subst hl
        have hlei : (i : Int) ≤ (n : Int) := by omega
        have hlei2 : ¬ (n : Int) < (i : Int) := by omega
        have hlen2 : ¬ n < i := by omega
        clear hPW hR hfn hl1 HR3 HNB HB3 HF
        go_wp2_with (fail)
        refine (refbucket_any 8#32 3#32 w6).mono ?_
        rintro e wn ⟨rfl, rfl⟩
        rw [HB8.out]
        go_wp2_with (fail)
        refine (refbucket_any 9#32 3#32 w6).mono ?_
        rintro e wn ⟨rfl, rfl⟩
        rw [HB9.out]
        go_wp2_with (fail)
        go_roundw
        case rel => exact ⟨i + 1, T3, X2, by omega, by omega, by go_num, HP2.out, HFN.out⟩
        case measure => simp [intOf]; omega
      · have HFN := Shut.mk hfn
        obtain ⟨A, c, rfl, hrow, -⟩ := OwnK.row (d := pk00) hO (fun _ _ => rfl) (by simp [maxLen])
        obtain ⟨b, off, aa, mm, cc, rfl, hrg, -⟩ := RowK.el hrow 0 (by simp)
        have hcid : w6.cell? ⟨b, off, none⟩ = some (.int .i64 ((i - n + 2 : Nat) : Int)) := by
          have h9 := hrg 0 (.int .i64 ((i - n + 2 : Nat) : Int)) rfl
          rw [Nat.zero_mul, Nat.add_zero, Nat.add_zero] at h9
          exact h9
        have hlei : ¬ (i : Int) ≤ (n : Int) := by omega
        have hlei2 : (n : Int) < (i : Int) := by omega
        have hlen2 : n < i := hgt
        have hlen3 : ¬ i ≤ n := by omega
        obtain ⟨v, hv⟩ : ∃ v : Nat, v = i - n + 2 := ⟨_, rfl⟩
        rw [← hv] at hcid
        have HV := Shut.mk hv
        obtain ⟨z, hz⟩ : ∃ z : Int, z = (i : Int) - (n : Int) := ⟨_, rfl⟩
        have hwr1 : IntKind.i64.wrap ((i : Int) - (n : Int)) = z := by rw [IntWalk.i64_in _ ⟨by omega, by omega⟩]; omega
        have hwr3 : IntKind.i64.wrap (z + 2) = (v : Int) := by rw [IntWalk.i64_in _ ⟨by omega, by omega⟩]; omega
        clear hz
        have hvv : ((v : Int) == (v : Int)) = true := by simp
        clear hPW hR hfn HR3 HNB HB3 HF hO hrow hrg hv
        rw [show [pFi t (i - n + 2)].length = 1 from rfl]
        have h11 : ((1 : Int) == 1) = true := rfl
        go_wp2_with (fail)
        refine (refbucket_any 8#32 3#32 w6).mono ?_
        rintro e wn ⟨rfl, rfl⟩
        rw [HB8.out]
        go_wp2_with (fail)
        refine (refbucket_any 9#32 3#32 w6).mono ?_
        rintro e wn ⟨rfl, rfl⟩
        rw [HB9.out]
        go_wp2_with (fail)
        go_roundw
        case rel => exact ⟨i + 1, T3, X2, by omega, by omega, by go_num, HP2.out, HFN.out⟩
        case measure => simp [intOf]; omega
    · have hi' : i = n + 8 := by omega
      subst hi'
      have hhas := fat_has HK.out HF.out
      have HH0 := Shut.mk (show allQ (mOf X (8 * 0 + 0)) ≠ [] from hhas.1)
      have HH1 := Shut.mk (show allQ (mOf X (8 * a + t)) ≠ [] by rw [← HKK.out]; exact hhas.2)
      have HLE := Shut.mk (show (allP (mOf X) 128).length = n by rw [HF.out.len]; omega)
      clear hhas HF
      have hnn : ((n : Int) == (n : Int)) = true := by simp
      go_wp2_with (fail)
      refine (has_in HP.out.is 0 0 (by decide) (by decide) 1 0 rfl rfl true ⟨fun _ => HH0.out, fun _ => rfl⟩).mono ?_
      rintro e wn ⟨rfl, rfl⟩
      go_wp2_with (fail)
      refine (has_in HP.out.is a t ha1.2 ht8 _ _ rfl rfl true ⟨fun _ => HH1.out, fun _ => rfl⟩).mono ?_
      rintro e wn ⟨rfl, rfl⟩
      go_wp2_with (fail)
      refine (len_p_any HP.out.is).mono ?_
      rintro e w7 ⟨rfl, hB7⟩
      rw [HLE.out]
      have HBF := Shut.mk (HP.out.quiet hB7).bel
      clear hB7
      go_wp2_with (fail)
      go_ret
      exact ⟨rfl, HBF.out⟩

end Go.Proofs.YtaibopaagjodoaaDoor.poolFattest
