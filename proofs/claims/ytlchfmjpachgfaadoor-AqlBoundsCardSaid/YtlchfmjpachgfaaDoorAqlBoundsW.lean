/-
  The walk of muezzin/muezzinlaw19.AqlBounds: the Go text returns true.
-/
import Derived.Test.YtlchfmjpachgfaaDoorAqlE
import Derived.Test.YtlchfmjpachgfaaDoorAqlE
import Derived.LoopTactic
import Derived.Lib.MinMax
import Derived.Deep.CutRange
import Derived.Deep.CutBlock
import Derived.WalkKit
import Derived.ProofKit
import Derived.Below
namespace Go.Proofs.YtlchfmjpachgfaaDoor.aqlBounds
open Go.ChangeShapes Go.WideShapes Go.ChangeAt Go.RowKit Go.Deep
set_option linter.unusedVariables false
set_option linter.unusedSimpArgs false

open Go.Proofs.YtlchfmjpachgfaaDoor

theorem may_zero {q : Aq} {a : Int} (ha : aidB a = true) (h : ofA q a = 0) : mayA q a = true := by unfold mayA; rw [ha]; simp [h]
theorem air_small {n : Int} (h0 : 0 ≤ n) (h1 : n < 20000) : airB n = true := by unfold airB; simp; omega
theorem add_is {q : Aq} {a n : Int} (ha : aidB a = true) (h0 : 0 ≤ n) (h1 : n < 1000) : addA q a n = (putA q a (ofA q a + n), 0) := by
  unfold addA; rw [if_pos ⟨ha, air_small h0 (by omega)⟩]
theorem wf_wrap (x : Int) : (Lit.int .i64 (wrap64 x)).wf = true := by
  have : -9223372036854775808 ≤ wrap64 x ∧ wrap64 x ≤ 9223372036854775807 := by unfold wrap64; omega
  simpa [Lit.wf, IntKind.min, IntKind.max, IntKind.signed, IntKind.bits] using this
theorem ask_small {q : Aq} {st wh : Int} (h : AskI q) (h1 : q.st = st) (h2 : q.wh = wh) (h3 : st < 5000) (h4 : wh < 20000) : (∀ a, ofA q a ≤ max st 1 + 1000) ∧ allA q ≤ wh + 16000 ∧ allA q ≤ 4611686018427387904 := by
  have e1 := h.each
  have e2 := ask_most h
  rw [h1] at e1
  rw [h2] at e2
  exact ⟨fun a => by have := e1 a; omega, e2, by omega⟩

/-! ### THE WALK -/
set_option maxRecDepth 100000 in
set_option maxHeartbeats 8000000 in
theorem walk (n0 : Int) (n1 : Int) (a2 : Option Addr) (len2 cap2 : Nat) (z2 : List Int) (w : World) (E : Nat → Addr) (hS : Sent w E [103]) (w0 : (Lit.int .i64 n0).wf = true) (w1 : (Lit.int .i64 n1).wf = true) (w2 : IsRow .i64 w a2 len2 cap2 z2) :
    Calls Tryd.prog 4 #[.int .i64 n0, .int .i64 n1, .slice a2 len2 cap2] w fun e w' => e = .returned (.bool true) ∧ Below w.heap.size w w' := by
  have HS := Shut.mk hS
  clear hS
  go_enter Tryd.func4, Tryd.ntmps4
  go_wp2_with (fail)
  refine (first_any w E HS.out (by decide)).mono ?_
  rintro x wa ⟨rfl, hBa⟩
  have HBa := Shut.mk hBa
  clear hBa
  obtain ⟨wh, hwh⟩ : ∃ wh, wh = nmod n1 20000 := ⟨_, rfl⟩
  obtain ⟨st, hst⟩ : ∃ st, st = nmod n0 5000 := ⟨_, rfl⟩
  have HST := Shut.mk (show 0 ≤ st ∧ st < 5000 by rw [hst]; exact ⟨nmod_lo _ _ (by decide), nmod_hi _ _ (by decide)⟩)
  have HWH := Shut.mk (show 0 ≤ wh ∧ wh < 20000 by rw [hwh]; exact ⟨nmod_lo _ _ (by decide), nmod_hi _ _ (by decide)⟩)
  have HW0 := Shut.mk w0
  have HW1 := Shut.mk w1
  have HW2 := Shut.mk w2
  have HEST := Shut.mk hst
  have HEWH := Shut.mk hwh
  clear w0 w1 w2 hst hwh
  go_wp2_with (fail)
  refine (number_any n0 5000 wa HW0.out (by decide) (by decide)).mono ?_
  rintro x wn ⟨rfl, rfl⟩
  rw [← HEST.out]
  go_wp2_with (fail)
  refine (number_any n1 20000 wa HW1.out (by decide) (by decide)).mono ?_
  rintro x wn ⟨rfl, rfl⟩
  rw [← HEWH.out]
  clear HW0 HW1 HEST HEWH
  rcases Nat.lt_or_ge 100 len2 with hN | hN
  · have hN' : (100 : Int) < (len2 : Int) := by omega
    go_wp2_with (fail)
    go_ret
    exact ⟨rfl, HBa.out⟩
  have hN1 : ¬ (100 : Int) < (len2 : Int) := by omega
  clear hN
  go_wp2_with (fail)
  refine (new_l HBa.out st wh (air_small HST.out.1 (by have := HST.out.2; omega)) (air_small HWH.out.1 HWH.out.2)).mono ?_
  rintro x wb ⟨rfl, hl⟩
  obtain ⟨g, hg⟩ : ∃ g, g = wa.heap.size := ⟨_, rfl⟩
  rw [← hg] at hl ⊢
  have HP := Shut.mk (show LawA w wb g (newA st wh) ∧ AskI (newA st wh) ∧ (newA st wh).st = st ∧ (newA st wh).wh = wh from ⟨hl, ask_new HWH.out.1, rfl, rfl⟩)
  generalize newA st wh = q0 at *
  obtain ⟨M, hM⟩ : ∃ M : Int, M = max st 1 := ⟨_, rfl⟩
  have HMM := Shut.mk hM
  have yM : max st 1 = M := hM.symm
  have yM1 : IntKind.i64.wrap (M + 1000) = M + 1000 := by have := HST.out; exact IntWalk.i64_in _ ⟨by omega, by omega⟩
  have yW1 : IntKind.i64.wrap (wh + 16000) = wh + 16000 := by have := HWH.out; exact IntWalk.i64_in _ ⟨by omega, by omega⟩
  clear hl hg hN1 hM
  go_wp2_with (fail)
  go_loopw [10, 11, 12, 13] (fun s10 _ _ _ wr => ∃ (i : Nat) (q : Aq), i ≤ len2 ∧ s10 = .int .i64 (i : Int) ∧ Shut (LawA w wr g q ∧ AskI q ∧ q.st = st ∧ q.wh = wh)) (fun s10 _ _ _ _ => len2 - (intOf s10).toNat)
  case atStart => exact ⟨0, q0, Nat.zero_le _, rfl, HP⟩
  case round =>
    clear HP
    obtain ⟨i, q, hi, rfl, HP⟩ := hrel
    by_cases hin : i < len2
    rotate_left
    · obtain rfl : i = len2 := by omega
      have hge : ¬ (i : Int) < (i : Int) := by omega
      have hge2 : ¬ i < i := by omega
      clear hi hin yM yM1 yW1
      go_wp2_with (fail)
      go_ret
      exact ⟨rfl, HP.out.1.bel⟩
    have hin2 : (i : Int) < (len2 : Int) := by omega
    have HI := Shut.mk hin
    obtain ⟨b, off, rfl, hcl, hwf⟩ := HW2.out.el i hin
    generalize z2.getD i 0 = v at hcl hwf
    have hc := below_at HP.out.1.bel hcl
    have HL := Shut.mk HP.out.1
    have HASK := Shut.mk HP.out.2
    have HWF := Shut.mk hwf
    obtain ⟨X, hX⟩ : ∃ X, X = nmod v 16 := ⟨_, rfl⟩
    have HX := Shut.mk (show 0 ≤ X ∧ X < 16 by rw [hX]; exact ⟨nmod_lo _ _ (by decide), nmod_hi _ _ (by decide)⟩)
    obtain ⟨a, hA⟩ : ∃ a, a = X + 1 := ⟨_, rfl⟩
    have y1 : IntKind.i64.wrap (X + 1) = a := by have := HX.out; rw [hA]; exact IntWalk.i64_in _ ⟨by omega, by omega⟩
    have HA := Shut.mk (show aidB a = true by have := HX.out; exact aidB_iff.2 ⟨by omega, by omega⟩)
    have HEX := Shut.mk hX
    clear hi hin hcl hwf hA hX HP
    go_wp2_with (fail)
    refine (number_any v 16 wr HWF.out (by decide) (by decide)).mono ?_
    rintro x wn ⟨rfl, rfl⟩
    rw [← HEX.out]
    go_wp2_with (fail)
    obtain ⟨D, hD⟩ : ∃ D, D = wrap64 (v.tdiv 16) := ⟨_, rfl⟩
    have HDW := Shut.mk (show (Lit.int .i64 D).wf = true by rw [hD]; exact wf_wrap _)
    obtain ⟨n, hn⟩ : ∃ n, n = nmod D 1000 := ⟨_, rfl⟩
    have HN := Shut.mk (show 0 ≤ n ∧ n < 1000 by rw [hn]; exact ⟨nmod_lo _ _ (by decide), nmod_hi _ _ (by decide)⟩)
    rw [← hD]
    have HEN := Shut.mk hn
    clear hD hn
    refine (number_any D 1000 wr HDW.out (by decide) (by decide)).mono ?_
    rintro x wn ⟨rfl, rfl⟩
    rw [← HEN.out]
    clear HEN HDW HEX HWF
    go_wp2_with (fail)
    refine (of_l HL.out a).mono ?_
    rintro x w5 ⟨rfl, hl⟩
    have W5 := Shut.mk hl
    clear hl
    clear HL hc
    by_cases ho : ofA q a = 0
    · have HMY := Shut.mk (may_zero HA.out ho)
      rw [ho]
      have HO := Shut.mk ho
      clear ho
      go_wp2_with (fail)
      refine (may_l W5.out a).mono ?_
      rintro x w6 ⟨rfl, hl⟩
      have W6 := Shut.mk hl
      clear hl
      rw [HMY.out]
      clear W5
      go_wp2_with (fail)
      refine (may_l W6.out a).mono ?_
      rintro x w7 ⟨rfl, hl⟩
      have W7 := Shut.mk hl
      clear hl
      rw [HMY.out]
      clear W6
      go_wp2_with (fail)
      have HADD := Shut.mk (ask_add HASK.out.1 HA.out HMY.out HN.out.1 (by have := HN.out.2; omega))
      have HQI := Shut.mk (add_is (q := q) HA.out HN.out.1 HN.out.2)
      refine (add_l W7.out HS.out (by decide) a n (by rw [HQI.out]; exact (ask_small HADD.out HASK.out.2.1 HASK.out.2.2 HST.out.2 HWH.out.2).2.2)).mono ?_
      rintro x wq ⟨rfl, hl⟩
      rw [HQI.out] at hl ⊢
      rw [errV_zero]
      obtain ⟨q2, hq2⟩ : ∃ q2, q2 = putA q a (ofA q a + n) := ⟨_, rfl⟩
      have HASK2 := Shut.mk (show AskI q2 ∧ q2.st = st ∧ q2.wh = wh by rw [hq2]; exact ⟨HADD.out, HASK.out.2⟩)
      have HQ := Shut.mk (show LawA w wq g q2 by rw [hq2]; exact hl)
      clear hl hq2 HADD HQI
      clear W7
      have HM := Shut.mk (ask_small HASK2.out.1 HASK2.out.2.1 HASK2.out.2.2 HST.out.2 HWH.out.2)
      go_wp2_with (fail)
      refine (of_l HQ.out a).mono ?_
      rintro x wr2 ⟨rfl, hl⟩
      have WR2 := Shut.mk hl
      clear hl
      obtain ⟨o2, ho2⟩ : ∃ o2, o2 = ofA q2 a := ⟨_, rfl⟩
      have hoM : ¬ M + 1000 < o2 := by rw [ho2, HMM.out]; have := HM.out.1 a; omega
      rw [← ho2]
      clear ho2
      go_wp2_with (fail)
      refine (all_l WR2.out).mono ?_
      rintro x wr3 ⟨rfl, hl⟩
      have WR3 := Shut.mk hl
      clear hl
      obtain ⟨al, hal⟩ : ∃ al, al = allA q2 := ⟨_, rfl⟩
      have haM : ¬ wh + 16000 < al := by rw [hal]; have := HM.out.2.1; omega
      rw [← hal]
      clear hal
      go_wp2_with (fail)
      go_roundw
      case rel => exact ⟨i + 1, q2, by have := HI.out; omega, by go_num, Shut.mk ⟨WR3.out, HASK2.out⟩⟩
      case measure => have := HI.out; simp [intOf]; omega
    · obtain ⟨o, hoo⟩ : ∃ o, o = ofA q a := ⟨_, rfl⟩
      rw [← hoo] at ho ⊢
      have e0 : (o == 0) = false := by simpa using ho
      clear ho hoo
      go_wp2_with (fail)
      refine (may_l W5.out a).mono ?_
      rintro x w6 ⟨rfl, hl⟩
      have W6 := Shut.mk hl
      clear hl
      clear W5 e0
      cases hm : mayA q a with
      | true =>
        have HMY := Shut.mk hm
        clear hm
        go_wp2_with (fail)
        have HADD := Shut.mk (ask_add HASK.out.1 HA.out HMY.out HN.out.1 (by have := HN.out.2; omega))
        have HQI := Shut.mk (add_is (q := q) HA.out HN.out.1 HN.out.2)
        refine (add_l W6.out HS.out (by decide) a n (by rw [HQI.out]; exact (ask_small HADD.out HASK.out.2.1 HASK.out.2.2 HST.out.2 HWH.out.2).2.2)).mono ?_
        rintro x wq ⟨rfl, hl⟩
        rw [HQI.out] at hl ⊢
        rw [errV_zero]
        obtain ⟨q2, hq2⟩ : ∃ q2, q2 = putA q a (ofA q a + n) := ⟨_, rfl⟩
        have HASK2 := Shut.mk (show AskI q2 ∧ q2.st = st ∧ q2.wh = wh by rw [hq2]; exact ⟨HADD.out, HASK.out.2⟩)
        have HQ := Shut.mk (show LawA w wq g q2 by rw [hq2]; exact hl)
        clear hl hq2 HADD HQI
        clear W6
        have HM := Shut.mk (ask_small HASK2.out.1 HASK2.out.2.1 HASK2.out.2.2 HST.out.2 HWH.out.2)
        go_wp2_with (fail)
        refine (of_l HQ.out a).mono ?_
        rintro x wr2 ⟨rfl, hl⟩
        have WR2 := Shut.mk hl
        clear hl
        obtain ⟨o2, ho2⟩ : ∃ o2, o2 = ofA q2 a := ⟨_, rfl⟩
        have hoM : ¬ M + 1000 < o2 := by rw [ho2, HMM.out]; have := HM.out.1 a; omega
        rw [← ho2]
        clear ho2
        go_wp2_with (fail)
        refine (all_l WR2.out).mono ?_
        rintro x wr3 ⟨rfl, hl⟩
        have WR3 := Shut.mk hl
        clear hl
        obtain ⟨al, hal⟩ : ∃ al, al = allA q2 := ⟨_, rfl⟩
        have haM : ¬ wh + 16000 < al := by rw [hal]; have := HM.out.2.1; omega
        rw [← hal]
        clear hal
        go_wp2_with (fail)
        go_roundw
        case rel => exact ⟨i + 1, q2, by have := HI.out; omega, by go_num, Shut.mk ⟨WR3.out, HASK2.out⟩⟩
        case measure => have := HI.out; simp [intOf]; omega
      | false =>
        obtain ⟨q2, hq2⟩ : ∃ q2, q2 = q := ⟨_, rfl⟩
        have HASK2 := Shut.mk (show AskI q2 ∧ q2.st = st ∧ q2.wh = wh by rw [hq2]; exact HASK.out)
        have HQ := Shut.mk (show LawA w w6 g q2 by rw [hq2]; exact W6.out)
        clear hm hq2 W6
        have HM := Shut.mk (ask_small HASK2.out.1 HASK2.out.2.1 HASK2.out.2.2 HST.out.2 HWH.out.2)
        go_wp2_with (fail)
        refine (of_l HQ.out a).mono ?_
        rintro x wr2 ⟨rfl, hl⟩
        have WR2 := Shut.mk hl
        clear hl
        obtain ⟨o2, ho2⟩ : ∃ o2, o2 = ofA q2 a := ⟨_, rfl⟩
        have hoM : ¬ M + 1000 < o2 := by rw [ho2, HMM.out]; have := HM.out.1 a; omega
        rw [← ho2]
        clear ho2
        go_wp2_with (fail)
        refine (all_l WR2.out).mono ?_
        rintro x wr3 ⟨rfl, hl⟩
        have WR3 := Shut.mk hl
        clear hl
        obtain ⟨al, hal⟩ : ∃ al, al = allA q2 := ⟨_, rfl⟩
        have haM : ¬ wh + 16000 < al := by rw [hal]; have := HM.out.2.1; omega
        rw [← hal]
        clear hal
        go_wp2_with (fail)
        go_roundw
        case rel => exact ⟨i + 1, q2, by have := HI.out; omega, by go_num, Shut.mk ⟨WR3.out, HASK2.out⟩⟩
        case measure => have := HI.out; simp [intOf]; omega

end Go.Proofs.YtlchfmjpachgfaaDoor.aqlBounds
