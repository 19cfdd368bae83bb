/-
  The walk of muezzin/muezzinlaw19.AqlBack: the Go text returns true.
-/
import Derived.Test.YtlchfmjpachgfaaDoorAqlE
import Derived.Test.YtlchfmjpachgfaaDoorAqlE
import Derived.LoopTactic
import Derived.Lib.MinMax
import Derived.Deep.CutRange
import Derived.Deep.CutBlock
import Derived.WalkKit
import Derived.ProofKit
import Derived.Below
namespace Go.Proofs.YtlchfmjpachgfaaDoor.aqlBack
open Go.ChangeShapes Go.WideShapes Go.ChangeAt Go.RowKit Go.Deep
set_option linter.unusedVariables false
set_option linter.unusedSimpArgs false

open Go.Proofs.YtlchfmjpachgfaaDoor

theorem may_zero {q : Aq} {a : Int} (ha : aidB a = true) (h : ofA q a = 0) : mayA q a = true := by unfold mayA; rw [ha]; simp [h]
theorem air_small {n : Int} (h0 : 0 ≤ n) (h1 : n < 100000) : airB n = true := by unfold airB; simp; omega
theorem add_is {q : Aq} {a n : Int} (ha : aidB a = true) (h0 : 0 ≤ n) (h1 : n < 1000) : addA q a n = (putA q a (ofA q a + n), 0) := by
  unfold addA; rw [if_pos ⟨ha, air_small h0 (by omega)⟩]
theorem sub_less_is {q : Aq} {a n : Int} (ha : aidB a = true) (h0 : 0 ≤ n) (h1 : n < 100000) (hl : ofA q a < n) : subA q a n = (q, 110) := by
  unfold subA; rw [if_pos ⟨ha, air_small h0 h1⟩, if_pos hl]
theorem sub_is {q : Aq} {a n : Int} (ha : aidB a = true) (h0 : 0 ≤ n) (h1 : n < 100000) (hl : n ≤ ofA q a) : subA q a n = (putA q a (ofA q a - n), 0) := by
  unfold subA; rw [if_pos ⟨ha, air_small h0 h1⟩, if_neg (by omega)]
theorem wf_wrap (x : Int) : (Lit.int .i64 (wrap64 x)).wf = true := by
  have : -9223372036854775808 ≤ wrap64 x ∧ wrap64 x ≤ 9223372036854775807 := by unfold wrap64; omega
  simpa [Lit.wf, IntKind.min, IntKind.max, IntKind.signed, IntKind.bits] using this
def aOf (v : Int) : Int := nmod v 16 + 1
def nOf (v : Int) : Int := nmod (wrap64 (v.tdiv 16)) 1000
theorem aOf_in (v : Int) : 1 ≤ aOf v ∧ aOf v ≤ 16 := by
  unfold aOf
  have h1 := nmod_lo v 16 (by decide)
  have h2 := nmod_hi v 16 (by decide)
  omega
theorem nOf_in (v : Int) : 0 ≤ nOf v ∧ nOf v < 1000 := ⟨nmod_lo _ _ (by decide), nmod_hi _ _ (by decide)⟩
def prs (z : List Int) (k : Nat) : List (Int × Int) := (List.range k).map fun j => (aOf (z.getD j 0), nOf (z.getD j 0))
theorem prs_next (z : List Int) (k : Nat) : prs z (k + 1) = prs z k ++ [(aOf (z.getD k 0), nOf (z.getD k 0))] := by unfold prs; rw [List.range_succ, List.map_append]; rfl
theorem prs_len (z : List Int) (k : Nat) : (prs z k).length = k := by unfold prs; simp
theorem prs_drop (z : List Int) {n k : Nat} (h : k < n) : (prs z n).drop k = (aOf (z.getD k 0), nOf (z.getD k 0)) :: (prs z n).drop (k + 1) := by
  rw [List.drop_eq_getElem_cons (by rw [prs_len]; exact h)]
  congr 1
  unfold prs
  simp
theorem prs_pos (z : List Int) (n : Nat) : ∀ p ∈ prs z n, 0 ≤ p.2 := by
  intro p hp
  unfold prs at hp
  obtain ⟨j, -, rfl⟩ := List.mem_map.1 hp
  exact (nOf_in _).1
theorem sum_prs (z : List Int) : ∀ k : Nat, 0 ≤ sumN (prs z k) ∧ sumN (prs z k) ≤ 999 * (k : Int)
  | 0 => by simp [prs, sumN]
  | k + 1 => by
    have h1 := sum_prs z k
    have h2 := nOf_in (z.getD k 0)
    rw [prs_next, sum_snoc]
    dsimp only
    omega
theorem tot_sum (a : Int) : ∀ {l : List (Int × Int)}, (∀ p ∈ l, 0 ≤ p.2) → totN a l ≤ sumN l
  | [], _ => Int.le_refl _
  | p :: r, h => by
    rw [tot_cons]
    have h1 := tot_sum a fun q hq => h q (List.mem_cons_of_mem _ hq)
    have h2 := h p List.mem_cons_self
    have h3 : sumN (p :: r) = p.2 + sumN r := by unfold sumN; simp
    rw [h3]
    split <;> omega

/-! ### THE WALK -/
set_option maxRecDepth 100000 in
set_option maxHeartbeats 8000000 in
theorem walk (a0 : Option Addr) (len0 cap0 : Nat) (z0 : List Int) (n1 : Int) (w : World) (E : Nat → Addr) (hS : Sent w E [101, 102, 103, 104, 105, 106, 107, 108, 109, 110, 111, 112, 113, 114]) (w0 : IsRow .i64 w a0 len0 cap0 z0) (w1 : (Lit.int .i64 n1).wf = true) :
    Calls Tryd.prog 5 #[.slice a0 len0 cap0, .int .i64 n1] w fun e w' => e = .returned (.bool true) ∧ Below w.heap.size w w' := by
  have HS := Shut.mk hS
  clear hS
  go_enter Tryd.func5, Tryd.ntmps5
  go_wp2_with (fail)
  refine (first_any w E HS.out (by decide)).mono ?_
  rintro x wa ⟨rfl, hBa⟩
  have HBa := Shut.mk hBa
  clear hBa
  have HW0 := Shut.mk w0
  have HW1 := Shut.mk w1
  clear w0 w1
  rcases Nat.lt_or_ge 50 len0 with hN | hN
  · have hN' : (50 : Int) < (len0 : Int) := by omega
    go_wp2_with (fail)
    go_ret
    exact ⟨rfl, HBa.out⟩
  have hN1 : ¬ (50 : Int) < (len0 : Int) := by omega
  have HN50 := Shut.mk hN
  clear hN
  obtain ⟨Y, hY⟩ : ∃ Y, Y = nmod n1 16 := ⟨_, rfl⟩
  obtain ⟨who, hwho⟩ : ∃ who, who = Y + 1 := ⟨_, rfl⟩
  have HY := Shut.mk (show 0 ≤ Y ∧ Y < 16 by rw [hY]; exact ⟨nmod_lo _ _ (by decide), nmod_hi _ _ (by decide)⟩)
  have yw : IntKind.i64.wrap (Y + 1) = who := by have := HY.out; rw [hwho]; exact IntWalk.i64_in _ ⟨by omega, by omega⟩
  have HWHO := Shut.mk (show aidB who = true by have := HY.out; exact aidB_iff.2 ⟨by omega, by omega⟩)
  have HEY := Shut.mk hY
  clear hY hwho
  go_wp2_with (fail)
  refine (number_any n1 16 wa HW1.out (by decide) (by decide)).mono ?_
  rintro x wn ⟨rfl, rfl⟩
  rw [← HEY.out]
  go_wp2_with (fail)
  refine (new_l HBa.out 1000 4000 (by decide) (by decide)).mono ?_
  rintro x wb ⟨rfl, hl⟩
  obtain ⟨g, hg⟩ : ∃ g, g = wa.heap.size := ⟨_, rfl⟩
  rw [← hg] at hl ⊢
  have HP := Shut.mk (show LawA w wb g (newA 1000 4000) ∧ CameI (newA 1000 4000) (prs z0 0) from ⟨hl, came_new _ _⟩)
  have HS0 := Shut.mk (show sumN (prs z0 0) = 0 ∧ totN who (prs z0 0) = 0 from ⟨rfl, rfl⟩)
  generalize newA 1000 4000 = q0 at *
  clear hl hg hN1 yw HEY HW1 HY
  go_wp2_with (fail)
  go_loopw [8, 9, 10, 11, 12] (fun s8 s9 s10 _ _ wr => ∃ (i : Nat) (q : Aq) (s m : Int), i ≤ len0 ∧ s8 = .int .i64 s ∧ s9 = .int .i64 m ∧ s10 = .int .i64 (i : Int) ∧ Shut (LawA w wr g q ∧ CameI q (prs z0 i) ∧ s = sumN (prs z0 i) ∧ m = totN who (prs z0 i))) (fun _ _ s10 _ _ _ => len0 - (intOf s10).toNat)
  case atStart => exact ⟨0, q0, 0, 0, Nat.zero_le _, rfl, rfl, rfl, Shut.mk ⟨HP.out.1, HP.out.2, HS0.out.1.symm, HS0.out.2.symm⟩⟩
  case round =>
    clear HP HS0
    obtain ⟨i, q, s, m, hi, rfl, rfl, rfl, HP⟩ := hrel
    by_cases hin : i < len0
    rotate_left
    · obtain rfl : i = len0 := by omega
      have hge : ¬ (i : Int) < (i : Int) := by omega
      have hge2 : ¬ i < i := by omega
      clear hi hin
      go_wp2_with (fail)
      clear hge hge2
      have HL := Shut.mk HP.out.1
      have HC := Shut.mk HP.out.2.1
      have HSM := Shut.mk HP.out.2.2
      have HSP := Shut.mk (sum_prs z0 i)
      have HTS := Shut.mk (tot_sum who (prs_pos z0 i))
      have HTP := Shut.mk (tot_nonneg (a := who) (prs_pos z0 i))
      have HBD := Shut.mk (show 0 ≤ s ∧ s ≤ 49950 ∧ 0 ≤ m ∧ m ≤ s by
        have h1 := HSM.out
        have h2 := HSP.out
        have h4 := HN50.out
        have h5 := HTS.out
        have h6 := HTP.out
        omega)
      have HALL := Shut.mk (show allA q = s by rw [HC.out.all, ← HSM.out.1])
      have HOF := Shut.mk (show ofA q who = m by rw [HC.out.of who HWHO.out, ← HSM.out.2])
      have y1 : IntKind.i64.wrap (m + 1) = m + 1 := by have := HBD.out; exact IntWalk.i64_in _ ⟨by omega, by omega⟩
      obtain ⟨d, hd⟩ : ∃ d, d = s - m := ⟨_, rfl⟩
      have y2 : IntKind.i64.wrap (s - m) = d := by have := HBD.out; rw [hd]; exact IntWalk.i64_in _ ⟨by omega, by omega⟩
      have HSL := Shut.mk (sub_less_is (q := q) (n := m + 1) HWHO.out (by have := HBD.out; omega) (by have := HBD.out; omega) (by rw [HOF.out]; omega))
      have HGC := Shut.mk (gone_clear HC.out HWHO.out)
      have HCL := Shut.mk (show clearA q who = putA q who 0 by unfold clearA; rw [if_pos HWHO.out])
      have HD := Shut.mk (show allA (putA q who 0) = d by rw [HGC.out.2, hd, HSM.out.1, HSM.out.2])
      clear hd HSP HTS HTP HSM HC HP
      refine (all_l HL.out).mono ?_
      rintro x w5 ⟨rfl, hl⟩
      have HL5 := Shut.mk hl
      rw [HALL.out]
      clear hl HL
      go_wp2_with (fail)
      refine (of_l HL5.out who).mono ?_
      rintro x w6 ⟨rfl, hl⟩
      have HL6 := Shut.mk hl
      rw [HOF.out]
      clear hl HL5
      go_wp2_with (fail)
      refine (sub_l HL6.out HS.out (by decide) (by decide) who (m + 1)).mono ?_
      rintro x w7 ⟨rfl, hl⟩
      rw [HSL.out] at hl ⊢
      have HL7 := Shut.mk hl
      clear hl HL6
      go_wp2_with (fail)
      refine (is_any E 110 110 w7 (HS.out.below HL7.out.bel) (.inr (by decide))).mono ?_
      rintro x w8 ⟨rfl, hb⟩
      have HL8 := Shut.mk (HL7.out.quiet hb)
      clear hb HL7
      go_wp2_with (fail)
      refine (clear_l HL8.out who).mono ?_
      rintro x w9 ⟨rfl, hl⟩
      rw [HCL.out] at hl
      obtain ⟨q1, hq1⟩ : ∃ q1, q1 = putA q who 0 := ⟨_, rfl⟩
      rw [← hq1] at hl HGC HD
      have HL9 := Shut.mk hl
      have HO1 := Shut.mk (show ofA q1 who = 0 by rw [HGC.out.1.of who HWHO.out, if_pos rfl])
      have HM1 := Shut.mk (may_zero HWHO.out HO1.out)
      clear hl hq1 HL8 HCL HSL HALL HOF
      go_wp2_with (fail)
      refine (all_l HL9.out).mono ?_
      rintro x w10 ⟨rfl, hl⟩
      have HL10 := Shut.mk hl
      rw [HD.out]
      clear hl HL9
      go_wp2_with (fail)
      refine (of_l HL10.out who).mono ?_
      rintro x w11 ⟨rfl, hl⟩
      have HL11 := Shut.mk hl
      rw [HO1.out]
      clear hl HL10
      go_wp2_with (fail)
      refine (may_l HL11.out who).mono ?_
      rintro x w12 ⟨rfl, hl⟩
      have HL12 := Shut.mk hl
      rw [HM1.out]
      clear hl HL11
      have HP := Shut.mk (show GoneI q1 who ((prs z0 i).drop 0) from HGC.out.1)
      clear HO1 HM1 HD HGC y1 y2
      go_wp2_with (fail)
      go_loopw [13, 14] (fun s13 _ wx => ∃ (k : Nat) (p : Aq), k ≤ i ∧ s13 = .int .i64 (k : Int) ∧ Shut (LawA w wx g p ∧ GoneI p who ((prs z0 i).drop k))) (fun s13 _ _ => i - (intOf s13).toNat)
      case atStart => exact ⟨0, q1, Nat.zero_le _, rfl, Shut.mk ⟨HL12.out, HP.out⟩⟩
      case round =>
        clear HP HL12
        obtain ⟨k, p, hk, rfl, HP⟩ := hrel
        by_cases hkn : k < i
        rotate_left
        · obtain rfl : k = i := by omega
          have hge : ¬ (k : Int) < (k : Int) := by omega
          have hge2 : ¬ k < k := by omega
          have HL := Shut.mk HP.out.1
          have HZ := Shut.mk (show allA p = 0 from gone_end (who := who) (by have h := HP.out.2; rw [List.drop_of_length_le (by rw [prs_len]; exact Nat.le_refl _)] at h; exact h))
          have HM0 := Shut.mk (show mayA p 0 = false by unfold mayA; rfl)
          have HM17 := Shut.mk (show mayA p 17 = false by unfold mayA; rfl)
          have HA0 := Shut.mk (show addA p 0 1 = (p, 103) by unfold addA; rw [if_neg (by decide)])
          have HS1 := Shut.mk (show subA p 1 (-1) = (p, 103) by unfold subA; rw [if_neg (by decide)])
          clear hk hkn HP
          go_wp2_with (fail)
          clear hge hge2
          refine (all_l HL.out).mono ?_
          rintro x v1 ⟨rfl, hl⟩
          have HL1 := Shut.mk hl
          rw [HZ.out]
          clear hl HL
          go_wp2_with (fail)
          refine (may_l HL1.out 0).mono ?_
          rintro x v2 ⟨rfl, hl⟩
          have HL2 := Shut.mk hl
          rw [HM0.out]
          clear hl HL1
          go_wp2_with (fail)
          refine (may_l HL2.out 17).mono ?_
          rintro x v3 ⟨rfl, hl⟩
          have HL3 := Shut.mk hl
          rw [HM17.out]
          clear hl HL2
          go_wp2_with (fail)
          refine (add_l HL3.out HS.out (by decide) 0 1 (by rw [HA0.out]; exact HL3.out.all)).mono ?_
          rintro x v4 ⟨rfl, hl⟩
          rw [HA0.out] at hl ⊢
          have HL4 := Shut.mk hl
          clear hl HL3
          go_wp2_with (fail)
          refine (is_any E 103 103 v4 (HS.out.below HL4.out.bel) (.inr (by decide))).mono ?_
          rintro x v5 ⟨rfl, hb⟩
          have HL5 := Shut.mk (HL4.out.quiet hb)
          clear hb HL4
          go_wp2_with (fail)
          refine (sub_l HL5.out HS.out (by decide) (by decide) 1 (-1)).mono ?_
          rintro x v6 ⟨rfl, hl⟩
          rw [HS1.out] at hl ⊢
          have HL6 := Shut.mk hl
          clear hl HL5
          go_wp2_with (fail)
          refine (is_any E 103 103 v6 (HS.out.below HL6.out.bel) (.inr (by decide))).mono ?_
          rintro x v7 ⟨rfl, hb⟩
          have HL7 := Shut.mk (HL6.out.quiet hb)
          clear hb HL6
          go_wp2_with (fail)
          go_ret
          exact ⟨rfl, HL7.out.bel⟩
        have hkn2 : (k : Int) < (i : Int) := by omega
        have HI := Shut.mk hkn
        have HL := Shut.mk HP.out.1
        have HG := Shut.mk HP.out.2
        clear hk hkn HP
        obtain ⟨b, off, rfl, hcl, hwf⟩ := HW0.out.el k HI.out
        obtain ⟨v, hv⟩ : ∃ v, v = z0.getD k 0 := ⟨_, rfl⟩
        rw [← hv] at hcl hwf
        have HV := Shut.mk hv
        have hc := below_at HL.out.bel hcl
        have HWF := Shut.mk hwf
        obtain ⟨X, hX⟩ : ∃ X, X = nmod v 16 := ⟨_, rfl⟩
        obtain ⟨a, hA⟩ : ∃ a, a = aOf v := ⟨_, rfl⟩
        have HAI := Shut.mk (show 1 ≤ a ∧ a ≤ 16 by rw [hA]; exact aOf_in v)
        have y1 : IntKind.i64.wrap (X + 1) = a := by have := HAI.out; rw [hA, hX]; exact IntWalk.i64_in _ ⟨by unfold aOf at hA; omega, by unfold aOf at hA; omega⟩
        have HA := Shut.mk (show aidB a = true from aidB_iff.2 HAI.out)
        have HEX := Shut.mk hX
        have HEA := Shut.mk hA
        obtain ⟨D, hD⟩ : ∃ D, D = wrap64 (v.tdiv 16) := ⟨_, rfl⟩
        have HDW := Shut.mk (show (Lit.int .i64 D).wf = true by rw [hD]; exact wf_wrap _)
        obtain ⟨n, hn⟩ : ∃ n, n = nmod D 1000 := ⟨_, rfl⟩
        have HN := Shut.mk (show 0 ≤ n ∧ n < 1000 by rw [hn]; exact ⟨nmod_lo _ _ (by decide), nmod_hi _ _ (by decide)⟩)
        have HEN := Shut.mk hn
        have HENO := Shut.mk (show n = nOf v by rw [hn, hD]; rfl)
        have HED := Shut.mk hD
        clear hcl hwf hA hX hD hn hv
        have HDR := Shut.mk (show (prs z0 i).drop k = (a, n) :: (prs z0 i).drop (k + 1) by rw [prs_drop z0 HI.out, ← HV.out, ← HEA.out, ← HENO.out])
        have HPS := Shut.mk (show ∀ p ∈ (prs z0 i).drop (k + 1), 0 ≤ p.2 from fun p hp => prs_pos z0 i p (List.mem_of_mem_drop hp))
        have HG2 := Shut.mk (show GoneI p who ((a, n) :: (prs z0 i).drop (k + 1)) by rw [← HDR.out]; exact HG.out)
        clear HG
        go_wp2_with (fail)
        refine (number_any v 16 wr HWF.out (by decide) (by decide)).mono ?_
        rintro x wn ⟨rfl, rfl⟩
        rw [← HEX.out]
        by_cases haw : a = who
        · have ew : (a != who) = false := by simpa using haw
          have HG3 := Shut.mk (show GoneI p who ((prs z0 i).drop (k + 1)) from gone_skip (n := n) (by rw [← haw]; have h := HG2.out; rw [← haw] at h; exact h))
          clear haw
          go_wp2_with (fail)
          go_roundw
          case rel => exact ⟨k + 1, p, by have := HI.out; omega, by go_num, Shut.mk ⟨HL.out, HG3.out⟩⟩
          case measure => have := HI.out; simp [intOf]; omega
        · have ew : (a != who) = true := by simpa using haw
          have HGS := Shut.mk (gone_sub HG2.out HA.out haw HN.out.1 HPS.out)
          have HSI := Shut.mk (sub_is (q := p) HA.out HN.out.1 (by have := HN.out.2; omega) HGS.out.1)
          have ew2 : (a == who) = false := by simpa using haw
          go_wp2_with (fail)
          rw [← HED.out]
          refine (number_any D 1000 wr HDW.out (by decide) (by decide)).mono ?_
          rintro x wn ⟨rfl, rfl⟩
          rw [← HEN.out]
          clear HEN HDW HEX HWF HED
          go_wp2_with (fail)
          refine (sub_l HL.out HS.out (by decide) (by decide) a n).mono ?_
          rintro x wy ⟨rfl, hl⟩
          rw [HSI.out] at hl ⊢
          rw [errV_zero]
          obtain ⟨p2, hp2⟩ : ∃ p2, p2 = putA p a (ofA p a - n) := ⟨_, rfl⟩
          have HQ := Shut.mk (show LawA w wy g p2 ∧ GoneI p2 who ((prs z0 i).drop (k + 1)) by rw [hp2]; exact ⟨hl, HGS.out.2⟩)
          clear hl hp2 HSI HGS HG2 HL hc
          go_wp2_with (fail)
          go_roundw
          case rel => exact ⟨k + 1, p2, by have := HI.out; omega, by go_num, Shut.mk ⟨HQ.out.1, HQ.out.2⟩⟩
          case measure => have := HI.out; simp [intOf]; omega
    have hin2 : (i : Int) < (len0 : Int) := by omega
    have HI := Shut.mk hin
    have HL := Shut.mk HP.out.1
    have HC := Shut.mk HP.out.2.1
    have HSM := Shut.mk HP.out.2.2
    clear hi hin HP
    obtain ⟨b, off, rfl, hcl, hwf⟩ := HW0.out.el i HI.out
    obtain ⟨v, hv⟩ : ∃ v, v = z0.getD i 0 := ⟨_, rfl⟩
    rw [← hv] at hcl hwf
    have HV := Shut.mk hv
    have hc := below_at HL.out.bel hcl
    have HWF := Shut.mk hwf
    obtain ⟨X, hX⟩ : ∃ X, X = nmod v 16 := ⟨_, rfl⟩
    obtain ⟨a, hA⟩ : ∃ a, a = aOf v := ⟨_, rfl⟩
    have HAI := Shut.mk (show 1 ≤ a ∧ a ≤ 16 by rw [hA]; exact aOf_in v)
    have y1 : IntKind.i64.wrap (X + 1) = a := by have := HAI.out; rw [hA, hX]; exact IntWalk.i64_in _ ⟨by unfold aOf at hA; omega, by unfold aOf at hA; omega⟩
    have HA := Shut.mk (show aidB a = true from aidB_iff.2 HAI.out)
    have HEX := Shut.mk hX
    have HEA := Shut.mk hA
    obtain ⟨D, hD⟩ : ∃ D, D = wrap64 (v.tdiv 16) := ⟨_, rfl⟩
    have HDW := Shut.mk (show (Lit.int .i64 D).wf = true by rw [hD]; exact wf_wrap _)
    obtain ⟨n, hn⟩ : ∃ n, n = nmod D 1000 := ⟨_, rfl⟩
    have HN := Shut.mk (show 0 ≤ n ∧ n < 1000 by rw [hn]; exact ⟨nmod_lo _ _ (by decide), nmod_hi _ _ (by decide)⟩)
    have HEN := Shut.mk hn
    have HENO := Shut.mk (show n = nOf v by rw [hn, hD]; rfl)
    have HED := Shut.mk hD
    clear hcl hwf hA hX hD hn hv
    have HSP := Shut.mk (sum_prs z0 i)
    have HNX := Shut.mk (show prs z0 (i + 1) = prs z0 i ++ [(a, n)] by rw [prs_next, ← HV.out, ← HEA.out, ← HENO.out])
    have HTS := Shut.mk (tot_sum who (prs_pos z0 i))
    have HTP := Shut.mk (tot_nonneg (a := who) (prs_pos z0 i))
    have ys : IntKind.i64.wrap (s + n) = s + n := by
      have h1 := HSM.out.1
      have h2 := HSP.out
      have h3 := HN.out
      have h4 := HN50.out
      exact IntWalk.i64_in _ ⟨by omega, by omega⟩
    have ym : IntKind.i64.wrap (m + n) = m + n := by
      have h1 := HSM.out
      have h2 := HSP.out
      have h3 := HN.out
      have h4 := HN50.out
      have h5 := HTS.out
      have h6 := HTP.out
      exact IntWalk.i64_in _ ⟨by omega, by omega⟩
    go_wp2_with (fail)
    refine (number_any v 16 wr HWF.out (by decide) (by decide)).mono ?_
    rintro x wn ⟨rfl, rfl⟩
    rw [← HEX.out]
    go_wp2_with (fail)
    rw [← HED.out]
    refine (number_any D 1000 wr HDW.out (by decide) (by decide)).mono ?_
    rintro x wn ⟨rfl, rfl⟩
    rw [← HEN.out]
    clear HEN HDW HEX HWF HED
    go_wp2_with (fail)
    have HQI := Shut.mk (add_is (q := q) HA.out HN.out.1 HN.out.2)
    have HCA := Shut.mk (came_add HC.out HA.out HN.out.1)
    have HSM2 := Shut.mk (show allA (putA q a (ofA q a + n)) ≤ 4611686018427387904 by
      have h1 := HCA.out.all
      rw [← HNX.out] at h1
      have h2 := sum_prs z0 (i + 1)
      have h3 := HI.out
      have h4 := HN50.out
      omega)
    refine (add_l HL.out HS.out (by decide) a n (by rw [HQI.out]; exact HSM2.out)).mono ?_
    rintro x wq ⟨rfl, hl⟩
    rw [HQI.out] at hl ⊢
    rw [errV_zero]
    obtain ⟨q2, hq2⟩ : ∃ q2, q2 = putA q a (ofA q a + n) := ⟨_, rfl⟩
    have HQ := Shut.mk (show LawA w wq g q2 ∧ CameI q2 (prs z0 (i + 1)) by rw [hq2, HNX.out]; exact ⟨hl, HCA.out⟩)
    have HS2 := Shut.mk (show s + n = sumN (prs z0 (i + 1)) ∧ totN who (prs z0 (i + 1)) = m + (if a = who then n else 0) by
      rw [HNX.out, sum_snoc, tot_snoc, HSM.out.1, HSM.out.2]; exact ⟨rfl, rfl⟩)
    clear hl hq2 HCA HQI HSM2 HL HC hc HTS HTP HSP
    by_cases haw : a = who
    · have ew : (a == who) = true := by simpa using haw
      have HM2 := Shut.mk (show m + n = totN who (prs z0 (i + 1)) by rw [HS2.out.2, if_pos haw])
      clear haw
      go_wp2_with (fail)
      go_roundw
      case rel => exact ⟨i + 1, q2, s + n, m + n, by have := HI.out; omega, rfl, rfl, by go_num, Shut.mk ⟨HQ.out.1, HQ.out.2, HS2.out.1, HM2.out⟩⟩
      case measure => have := HI.out; simp [intOf]; omega
    · have ew : (a == who) = false := by simpa using haw
      have HM2 := Shut.mk (show m = totN who (prs z0 (i + 1)) by rw [HS2.out.2, if_neg haw]; omega)
      clear haw
      go_wp2_with (fail)
      go_roundw
      case rel => exact ⟨i + 1, q2, s + n, m, by have := HI.out; omega, rfl, rfl, by go_num, Shut.mk ⟨HQ.out.1, HQ.out.2, HS2.out.1, HM2.out⟩⟩
      case measure => have := HI.out; simp [intOf]; omega

end Go.Proofs.YtlchfmjpachgfaaDoor.aqlBack
