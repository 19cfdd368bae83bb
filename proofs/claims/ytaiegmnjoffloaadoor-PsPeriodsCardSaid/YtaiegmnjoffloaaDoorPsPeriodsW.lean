/-
  The walk of muezzin/muezzinlaw21.PsPeriods: the Go text returns true.
-/
import Derived.Test.YtaiegmnjoffloaaDoorPsL
import Derived.Test.YtaiegmnjoffloaaDoorOpenU
import Derived.Test.YtaiegmnjoffloaaDoorNum
import Derived.Test.YtaiegmnjoffloaaDoorErrP
import Derived.Test.YtaiegmnjoffloaaDoorPsQ
import Derived.LoopTactic
import Derived.Lib.MinMax
import Derived.Deep.CutRange
import Derived.Deep.CutBlock
import Derived.BigGuard
import Derived.WalkKit
import Derived.ProofKit
import Derived.Below
namespace Go.Proofs.YtaiegmnjoffloaaDoor.psPeriods
open Go.ChangeShapes Go.WideShapes Go.ChangeAt Go.RowKit Go.Deep
set_option linter.unusedVariables false
set_option linter.unusedSimpArgs false

open Go.Proofs.YtaiegmnjoffloaaDoor

theorem quiet_same {P : Program} {f : FuncId} {args : Array Value} {w : World} {n : Nat} {v : Value}
    (h : Calls P f args (w.drewN n) fun e w' => e = .returned v ∧ w.drewN n = w') : Calls P f args (w.drewN n) fun e w'' => e = .returned v ∧ ∃ m, w'' = w.drewN m := h.mono fun _ _ ⟨he, hw⟩ => ⟨he, n, hw.symm⟩
def pA (u : Nat → Bool) (mo : Nat) : Nap := addN u mo
def pB (u : Nat → Bool) (mo : Nat) : Nap := ⟨true, true, false, false, mo, 0, u⟩
theorem e_dA (u : Nat → Bool) (mo : Nat) : dozeN (pA u mo) true = pB u mo := rfl
theorem e_mB (u : Nat → Bool) (mo c : Nat) : mayN (pB u mo) c = false := rfl
theorem e_tB {u : Nat → Bool} {mo c : Nat} (h : u c = false) : trigN (pB u mo) c = (pB u mo, 110) := by unfold trigN; rw [if_pos (.inr (.inr (.inr h)))]
theorem per_poll {p : Nap} {u : Nat → Bool} {mo i : Nat} (h : PerN p u mo i) : pollN p = (p, 110) := by unfold pollN; rw [if_pos (.inr h.opn)]
theorem sent_there (p : Nap) (more : Bool) : (sentN p more).1.there = p.there := by
  unfold sentN
  split
  · rfl
  · split <;> rfl
theorem close_no {p : Nap} (h : p.opn = false) : closeN p = (p, 110) := by unfold closeN; rw [if_neg (by rw [h]; simp)]
theorem two_1 : 1 ≤ 2 := by omega
theorem two_2 : 2 ≤ 16 := by omega

/-! ### THE WALK -/
set_option maxRecDepth 100000 in
set_option maxHeartbeats 8000000 in
theorem walk (n0 : Int) (n1 : Int) (u2 : Nat → Bool) (n3 : Int) (w : World) (E : Nat → Addr) (hS : Sent w E [101, 102, 103, 104, 105, 106, 107, 108, 109, 110, 111, 112, 113, 114]) (w0 : (Lit.int .i64 n0).wf = true) (w1 : (Lit.int .i64 n1).wf = true) (w3 : (Lit.int .i64 n3).wf = true) :
    Calls Tryd.prog 5 #[.int .i64 n0, .int .i64 n1, .agg #[.bool (u2 0), .bool (u2 1), .bool (u2 2), .bool (u2 3)], .int .i64 n3] w fun e w' => e = .returned (.bool true) ∧ Below w.heap.size w w' := by
  have W0 := Shut.mk w0
  have W1 := Shut.mk w1
  have W3 := Shut.mk w3
  clear w0 w1 w3
  obtain ⟨mo, hmo⟩ : ∃ j : Nat, nmod n0 9 = (j : Int) := ⟨(nmod n0 9).toNat, by have := nmod_lo n0 9 (by decide); omega⟩
  have HLmo := Shut.mk (show mo < 9 by have := nmod_hi n0 9 (by decide); omega)
  have HEmo := Shut.mk hmo
  clear hmo
  obtain ⟨m, hm⟩ : ∃ j : Nat, nmod n1 12 = (j : Int) := ⟨(nmod n1 12).toNat, by have := nmod_lo n1 12 (by decide); omega⟩
  have HLm := Shut.mk (show m < 12 by have := nmod_hi n1 12 (by decide); omega)
  have HEm := Shut.mk hm
  clear hm
  obtain ⟨c, hc⟩ : ∃ j : Nat, nmod n3 4 = (j : Int) := ⟨(nmod n3 4).toNat, by have := nmod_lo n3 4 (by decide); omega⟩
  have HLc := Shut.mk (show c < 4 by have := nmod_hi n3 4 (by decide); omega)
  have HEc := Shut.mk hc
  clear hc
  obtain ⟨wb, hwb⟩ : ∃ wb, wb = w.alloc (Obj.cells #[.bool (u2 0), .bool (u2 1), .bool (u2 2), .bool (u2 3)] 26 (0, 0)) := ⟨_, rfl⟩
  have HB0 := Shut.mk (show Below w.heap.size w wb by rw [hwb]; exact (Below.refl w.heap.size w).alloc (Nat.le_refl _) _)
  obtain ⟨gu, hgu⟩ : ∃ gu, gu = w.heap.size := ⟨_, rfl⟩
  have HU := Shut.mk (show wb.rangeAt gu 0 [.bool (u2 0), .bool (u2 1), .bool (u2 2), .bool (u2 3)] by rw [hwb, hgu]; exact block_range (MapKept.heap_alloc w (Obj.cells #[.bool (u2 0), .bool (u2 1), .bool (u2 2), .bool (u2 3)] 26 (0, 0))).1)
  have HWB := Shut.mk hwb.symm
  have HGU := Shut.mk hgu.symm
  have HS := Shut.mk (hS.below HB0.out)
  have HUC := Shut.mk (show ∀ c : Nat, c < 4 → ∀ w' : World, Below wb.heap.size wb w' → w'.cell? ⟨gu, c, none⟩ = some (.bool (u2 c)) from fun c hc w' hb => by
    have h : [Value.bool (u2 0), .bool (u2 1), .bool (u2 2), .bool (u2 3)][c]? = some (.bool (u2 c)) := by
      match c, hc with
      | 0, _ | 1, _ | 2, _ | 3, _ => rfl
      | n + 4, h => exact absurd h (by omega)
    have h2 := below_at hb (HU.out c _ h)
    simpa using h2)
  clear hS hwb hgu
  go_enter Tryd.func5, Tryd.ntmps5
  go_wp2_with (fail)
  rw [HWB.out, HGU.out]
  refine (first_any wb E HS.out (by decide) (by decide) (by decide)).mono ?_
  rintro x wa ⟨rfl, hBa⟩
  have HBa := Shut.mk hBa
  clear hBa
  go_wp2_with (fail)
  refine (number_any n0 9 wa W0.out (by decide) (by decide)).mono ?_
  rintro x wn ⟨rfl, rfl⟩
  rw [HEmo.out]
  go_wp2_with (fail)
  refine (number_any n1 12 wa W1.out (by decide) (by decide)).mono ?_
  rintro x wn ⟨rfl, rfl⟩
  rw [HEm.out]
  obtain ⟨n, hn⟩ : ∃ n : Nat, n = m + 1 := ⟨_, rfl⟩
  have HN1 := Shut.mk (show 1 ≤ n by omega)
  have HN2 := Shut.mk (show n ≤ 12 by have := HLm.out; omega)
  have y3 : (m : Int) + 1 = (n : Int) := by omega
  have y4 : IntKind.i64.wrap (n : Int) = (n : Int) := IntWalk.i64_in _ ⟨by omega, by have := HN2.out; omega⟩
  clear hn
  go_wp2_with (fail)
  refine (number_any n3 4 wa W3.out (by decide) (by decide)).mono ?_
  rintro x wn ⟨rfl, rfl⟩
  rw [HEc.out]
  clear W0 W1 W3 HEmo HEm HEc HLm y3 y4
  obtain ⟨w1, hw1⟩ : ∃ w1, w1 = wa.alloc (Obj.cells Tryd.zeroCells31 31 (0, 0)) := ⟨_, rfl⟩
  have HL := Shut.mk (show LawP wb w1 wa.heap.size X0 by rw [hw1]; exact LawP.made HBa.out)
  have HW1 := Shut.mk hw1.symm
  obtain ⟨g, hg⟩ : ∃ g, g = wa.heap.size := ⟨_, rfl⟩
  rw [← hg] at HL
  have HGN := Shut.mk hg
  clear hw1 hg
  have HMO := Shut.mk (show mo ≤ 8 by have := HLmo.out; omega)
  have q1 := Shut.mk (show addP X0 2 u2 (mo : Int) = (at1 2 (pA u2 mo), 0) from add_at (k := 2) two_1 two_2 u2 HMO.out)
  have q2 := Shut.mk (show dozeP (at1 2 (pA u2 mo)) 2 true = (at1 2 (pB u2 mo), 0) from doze_at (k := 2) two_1 two_2 rfl true)
  go_upto_region 8 with (fail)
  rw [HW1.out, ← HGN.out]
  clear HW1 HGN
  have HU2 := Shut.mk (show ∀ w' : World, Below wb.heap.size wb w' → w'.rangeAt gu 0 [.bool (u2 0), .bool (u2 1), .bool (u2 2), .bool (u2 3)] from fun w' hb j v hv => below_at hb (HU.out j v hv))
  go_wp2_with (refine wpList_load_mid rfl 26 (.tmp 6) rfl gu 0 rfl [.bool (u2 0), .bool (u2 1), .bool (u2 2), .bool (u2 3)] _ (HU2.out _ HL.out.bel) Tryd.underlying26 rfl size4b ?_)
  refine (add_l HL.out HS.out (by decide) (by decide) 2 u2 (mo : Int)).mono ?_
  rintro x w2 ⟨rfl, hl⟩
  rw [q1.out] at hl ⊢
  have HLn := Shut.mk hl
  clear hl HL
  have HL := HLn
  clear HLn
  rw [errV_zero]
  go_wp2_with (fail)
  refine (doze_l HL.out HS.out (by decide) 2 true).mono ?_
  rintro x w3 ⟨rfl, hl⟩
  rw [q2.out] at hl ⊢
  have HLn := Shut.mk hl
  clear hl HL
  have HL := HLn
  clear HLn
  rw [errV_zero]
  go_wp2_with (fail)
  have n1' : (0 : Int) ≤ (c : Int) := by omega
  have n2' : (c : Int) < 4 := by have := HLc.out; omega
  cases hu : u2 c with
  | false =>
    have q3 := Shut.mk (show trigP (at1 2 (pB u2 mo)) 2 (c : Int) = (at1 2 (pB u2 mo), 110) from (trig_at (k := 2) two_1 two_2 rfl HLc.out).trans (by rw [e_tB hu]))
    have q4 := Shut.mk (show mayP (at1 2 (pB u2 mo)) 2 (c : Int) = false from (may_at (k := 2) two_1 two_2 rfl HLc.out).trans (e_mB u2 mo c))
    have HUC1 := Shut.mk (show ∀ w' : World, Below wb.heap.size wb w' → w'.cell? ⟨gu, c, none⟩ = some (.bool false) from fun w' hb => by rw [← hu]; exact HUC.out c HLc.out w' hb)
    clear hu
    refine (trig_l HL.out HS.out (by decide) (by decide) (by decide) 2 (c : Int)).mono ?_
    rintro x w4 ⟨rfl, hl⟩
    rw [q3.out] at hl ⊢
    have HLn := Shut.mk hl
    clear hl HL
    have HL := HLn
    clear HLn
    have cu := HUC1.out _ HL.out.bel
    go_wp2_with (fail)
    clear cu
    refine (is_any E 110 110 _ (HS.out.below HL.out.bel) (by decide)).mono ?_
    rintro x wx ⟨rfl, hb⟩
    have HLn := Shut.mk (HL.out.quiet hb)
    clear hb HL
    have HL := HLn
    clear HLn
    go_wp2_with (fail)
    refine (may_l HL.out 2 (c : Int)).mono ?_
    rintro x wn ⟨rfl, rfl⟩
    rw [q4.out]
    go_wp2_with (fail)
    go_ret
    exact ⟨rfl, HB0.out.trans (HL.out.bel.mono HB0.out.size)⟩
  | true =>
    have q3' := Shut.mk (per_trig (p := pB u2 mo) (u := u2) (most := mo) (ac := c) rfl rfl rfl rfl rfl rfl hu)
    obtain ⟨p0, hp0⟩ : ∃ p0, p0 = (trigN (pB u2 mo) c).1 := ⟨_, rfl⟩
    have HP0 := Shut.mk (show PerN p0 u2 mo 0 by rw [hp0]; exact q3'.out.2)
    have q3 := Shut.mk (show trigP (at1 2 (pB u2 mo)) 2 (c : Int) = (at1 2 p0, 0) from (trig_at (k := 2) two_1 two_2 rfl HLc.out).trans (by rw [q3'.out.1, ← hp0]))
    have HUC1 := Shut.mk (show ∀ w' : World, Below wb.heap.size wb w' → w'.cell? ⟨gu, c, none⟩ = some (.bool true) from fun w' hb => by rw [← hu]; exact HUC.out c HLc.out w' hb)
    have HUT := Shut.mk hu
    have q4 := Shut.mk (show pollP (at1 2 p0) 2 = (at1 2 p0, 110) from (poll_at (k := 2) two_1 two_2 HP0.out.there).trans (by rw [per_poll HP0.out]))
    clear hu hp0 q3'
    refine (trig_l HL.out HS.out (by decide) (by decide) (by decide) 2 (c : Int)).mono ?_
    rintro x w4 ⟨rfl, hl⟩
    rw [q3.out] at hl ⊢
    have HLn := Shut.mk hl
    clear hl HL
    have HL := HLn
    clear HLn
    rw [errV_zero]
    have cu := HUC1.out _ HL.out.bel
    go_wp2_with (fail)
    clear cu
    refine (poll_l HL.out HS.out (by decide) (by decide) 2).mono ?_
    rintro x w5 ⟨rfl, hl⟩
    rw [q4.out] at hl ⊢
    have HLn := Shut.mk hl
    clear hl HL
    have HL := HLn
    clear HLn
    go_wp2_with (fail)
    refine (is_any E 110 110 _ (HS.out.below HL.out.bel) (by decide)).mono ?_
    rintro x wx ⟨rfl, hb⟩
    have HLn := Shut.mk (HL.out.quiet hb)
    clear hb HL
    have HL := HLn
    clear HLn
    go_wp2_with (fail)
    go_loopw [12] (fun s12 wr => ∃ a : Nat, a ≤ 4 ∧ s12 = .int .i64 (a : Int) ∧ Shut (LawP wb wr g (at1 2 p0))) (fun s12 _ => 4 - (intOf s12).toNat)
    case atStart => exact ⟨0, by omega, rfl, HL⟩
    case round =>
      clear HL
      obtain ⟨a, ha, rfl, HL⟩ := hrel
      by_cases hin : a < 4
      · have hin2 : (a : Int) < 4 := by omega
        have hin0 : (0 : Int) ≤ (a : Int) := by omega
        have q5 := Shut.mk (show mayP (at1 2 p0) 2 (a : Int) = u2 a from (may_at (k := 2) two_1 two_2 HP0.out.there hin).trans (per_may HP0.out a))
        have HQ := Shut.mk (fun nn => quiet_same (w := wr) (n := nn) (may_l (HL.out.quiet (below_drewN (Below.refl _ _) nn)) 2 (a : Int)))
        have cu := HUC.out a hin _ HL.out.bel
        rw [q5.out] at HQ
        generalize u2 a = b at *
        have HI := Shut.mk hin
        clear ha hin
        go_wp2_with (fail)
        go_quiet ((go_at_call 28; exact HQ.out _))
        have HLn := Shut.mk (HL.out.quiet (below_drewN (Below.refl _ _) nq))
        clear HL HQ cu
        go_wp2_with (fail)
        go_roundw
        case rel => exact ⟨a + 1, by have := HI.out; omega, by go_num, HLn⟩
        case measure => have := HI.out; simp [intOf]; omega
      · obtain rfl : a = 4 := by omega
        clear ha hin
        go_wp2_with (fail)
        go_loopw [13, 14, 15, 16] (fun s13 _ _ _ wr => ∃ (i : Nat) (p : Nap), 1 ≤ i ∧ i ≤ n ∧ s13 = .int .i64 (i : Int) ∧ Shut (LawP wb wr g (at1 2 p) ∧ PerN p u2 mo (i - 1))) (fun s13 _ _ _ _ => n - (intOf s13).toNat)
        case atStart => exact ⟨1, p0, by omega, HN1.out, rfl, Shut.mk ⟨HL.out, HP0.out⟩⟩
        case round =>
          clear HL HP0 q3 q4
          obtain ⟨i, p, hi1, hi2, rfl, HP⟩ := hrel
          have HL := Shut.mk HP.out.1
          have HPN := Shut.mk HP.out.2
          have HM := Shut.mk (show mayN p c = true from (per_may HPN.out c).trans HUT.out)
          have HI1 := Shut.mk hi1
          have HI2 := Shut.mk hi2
          have hle : (i : Int) ≤ (n : Int) := by omega
          have hle2 : ¬ (n : Int) < (i : Int) := by omega
          clear HP hi1 hi2
          by_cases hin : i = n
          · have hne : ((i : Int) == (n : Int)) = true := by simp [hin]
            have hnl : ¬ (i : Int) < (n : Int) := by omega
            have hnl2 : ¬ i < n := by omega
            clear hin
            have e := per_sent HPN.out false
            have q5 := Shut.mk (sent_at1 (k := 2) (p := p) two_1 two_2 HPN.out.there HLc.out HM.out false)
            obtain ⟨p1, hp1⟩ : ∃ p1, p1 = (sentN p false).1 := ⟨_, rfl⟩
            have HTH := Shut.mk (show p1.there = true by rw [hp1, sent_there]; exact HPN.out.there)
            have HEL : (sentN p false).2 = true := by rw [e.1]; simp
            have HAF := Shut.mk (show p1.opn = false ∧ p1.asked = false ∧ p1.asleep = true by rw [hp1]; exact e.2.2 HEL)
            rw [HEL, ← hp1] at q5
            have q6 := Shut.mk (show mayP (at1 2 p1) 2 (c : Int) = false from (may_at (k := 2) two_1 two_2 HTH.out HLc.out).trans (quiet_may HAF.out.2.2 HAF.out.2.1 HAF.out.1 c))
            have q7 := Shut.mk (show closeP (at1 2 p1) 2 = (at1 2 p1, 110) from (close_at (k := 2) two_1 two_2 HTH.out).trans (by rw [close_no HAF.out.1]))
            clear e hp1 HEL
            go_wp2_with (fail)
            refine (sent_l HL.out HS.out (by decide) (by decide) (by decide) 2 (c : Int) false).mono ?_
            rintro x w6 ⟨rfl, hl⟩
            rw [show sentP (at1 2 p) 2 (c : Int) false = (at1 2 p1, true, 0) from q5.out] at hl ⊢
            have HLn := Shut.mk hl
            clear hl HL
            have HL := HLn
            clear HLn
            rw [errV_zero]
            go_wp2_with (fail)
            refine (may_l HL.out 2 (c : Int)).mono ?_
            rintro x wn ⟨rfl, rfl⟩
            rw [q6.out]
            go_wp2_with (fail)
            refine (close_l HL.out HS.out (by decide) (by decide) 2).mono ?_
            rintro x w7 ⟨rfl, hl⟩
            rw [q7.out] at hl ⊢
            have HLn := Shut.mk hl
            clear hl HL
            have HL := HLn
            clear HLn
            go_wp2_with (fail)
            refine (is_any E 110 110 _ (HS.out.below HL.out.bel) (by decide)).mono ?_
            rintro x wx ⟨rfl, hb⟩
            have HLn := Shut.mk (HL.out.quiet hb)
            clear hb HL
            have HL := HLn
            clear HLn
            go_wp2_with (fail)
            go_ret
            exact ⟨rfl, HB0.out.trans (HL.out.bel.mono HB0.out.size)⟩
          · have hne : ((i : Int) == (n : Int)) = false := by simp; omega
            have hlt : (i : Int) < (n : Int) := by have := HI2.out; omega
            have HIN := Shut.mk (show i < n by omega)
            clear hin
            by_cases hm : mo = 0
            · have HM0 := Shut.mk hm
              have hm1 : decide ((0 : Int) < (mo : Int)) = false := decide_eq_false (by omega)
              have hm2 : decide (0 < mo) = false := decide_eq_false (by omega)
              clear hm
              have e := per_sent HPN.out true
              have q5 := Shut.mk (sent_at1 (k := 2) (p := p) two_1 two_2 HPN.out.there HLc.out HM.out true)
              obtain ⟨p1, hp1⟩ : ∃ p1, p1 = (sentN p true).1 := ⟨_, rfl⟩
              have HTH := Shut.mk (show p1.there = true by rw [hp1, sent_there]; exact HPN.out.there)
              have HEL : (sentN p true).2 = false := by rw [e.1]; have := HM0.out; simp; omega
              have HPN2 := Shut.mk (show PerN p1 u2 mo (i - 1 + 1) by rw [hp1]; exact e.2.1 HEL)
              rw [HEL, ← hp1] at q5
              have y5 : IntKind.i64.wrap ((i : Int) + 1) = (i : Int) + 1 := IntWalk.i64_in _ ⟨by omega, by have := HN2.out; omega⟩
              clear e hp1 HEL
              go_wp2_with (fail)
              refine (sent_l HL.out HS.out (by decide) (by decide) (by decide) 2 (c : Int) true).mono ?_
              rintro x w6 ⟨rfl, hl⟩
              rw [show sentP (at1 2 p) 2 (c : Int) true = (at1 2 p1, false, 0) from q5.out] at hl ⊢
              have HLn := Shut.mk hl
              clear hl HL
              have HL := HLn
              clear HLn
              rw [errV_zero]
              go_wp2_with (fail)
              go_roundw
              case rel =>
                (repeat apply Exists.intro)
                refine ⟨?_, rfl⟩
                exact ⟨i + 1, p1, by omega, by have := HIN.out; omega, by go_num, Shut.mk ⟨HL.out, by have := HPN2.out; rw [show i + 1 - 1 = i - 1 + 1 by have := HI1.out; omega]; exact this⟩⟩
              case measure => have := HIN.out; simp [intOf]; omega
            · have HM0 := Shut.mk hm
              have hm1 : decide ((0 : Int) < (mo : Int)) = true := decide_eq_true (by omega)
              have hm2 : decide (0 < mo) = true := decide_eq_true (by omega)
              by_cases hq : i = mo
              · have HQI := Shut.mk hq
                have hq1 : ((i : Int) == (mo : Int)) = true := by simp [hq]
                clear hm hq
                have e := per_sent HPN.out true
                have q5 := Shut.mk (sent_at1 (k := 2) (p := p) two_1 two_2 HPN.out.there HLc.out HM.out true)
                obtain ⟨p1, hp1⟩ : ∃ p1, p1 = (sentN p true).1 := ⟨_, rfl⟩
                have HTH := Shut.mk (show p1.there = true by rw [hp1, sent_there]; exact HPN.out.there)
                have HEL : (sentN p true).2 = true := by rw [e.1]; have := HM0.out; have := HQI.out; have := HI1.out; simp; omega
                have HAF := Shut.mk (show p1.opn = false ∧ p1.asked = false ∧ p1.asleep = true by rw [hp1]; exact e.2.2 HEL)
                rw [HEL, ← hp1] at q5
                have q6 := Shut.mk (show mayP (at1 2 p1) 2 (c : Int) = false from (may_at (k := 2) two_1 two_2 HTH.out HLc.out).trans (quiet_may HAF.out.2.2 HAF.out.2.1 HAF.out.1 c))
                have q7 := Shut.mk (show closeP (at1 2 p1) 2 = (at1 2 p1, 110) from (close_at (k := 2) two_1 two_2 HTH.out).trans (by rw [close_no HAF.out.1]))
                clear e hp1 HEL
                go_wp2_with (fail)
                refine (sent_l HL.out HS.out (by decide) (by decide) (by decide) 2 (c : Int) true).mono ?_
                rintro x w6 ⟨rfl, hl⟩
                rw [show sentP (at1 2 p) 2 (c : Int) true = (at1 2 p1, true, 0) from q5.out] at hl ⊢
                have HLn := Shut.mk hl
                clear hl HL
                have HL := HLn
                clear HLn
                rw [errV_zero]
                go_wp2_with (fail)
                refine (may_l HL.out 2 (c : Int)).mono ?_
                rintro x wn ⟨rfl, rfl⟩
                rw [q6.out]
                go_wp2_with (fail)
                refine (close_l HL.out HS.out (by decide) (by decide) 2).mono ?_
                rintro x w7 ⟨rfl, hl⟩
                rw [q7.out] at hl ⊢
                have HLn := Shut.mk hl
                clear hl HL
                have HL := HLn
                clear HLn
                go_wp2_with (fail)
                refine (is_any E 110 110 _ (HS.out.below HL.out.bel) (by decide)).mono ?_
                rintro x wx ⟨rfl, hb⟩
                have HLn := Shut.mk (HL.out.quiet hb)
                clear hb HL
                have HL := HLn
                clear HLn
                go_wp2_with (fail)
                go_ret
                exact ⟨rfl, HB0.out.trans (HL.out.bel.mono HB0.out.size)⟩
              · have HQI := Shut.mk hq
                have hq1 : ((i : Int) == (mo : Int)) = false := by simp; omega
                clear hm hq
                have e := per_sent HPN.out true
                have q5 := Shut.mk (sent_at1 (k := 2) (p := p) two_1 two_2 HPN.out.there HLc.out HM.out true)
                obtain ⟨p1, hp1⟩ : ∃ p1, p1 = (sentN p true).1 := ⟨_, rfl⟩
                have HTH := Shut.mk (show p1.there = true by rw [hp1, sent_there]; exact HPN.out.there)
                have HEL : (sentN p true).2 = false := by rw [e.1]; have := HM0.out; have := HQI.out; have := HI1.out; simp; omega
                have HPN2 := Shut.mk (show PerN p1 u2 mo (i - 1 + 1) by rw [hp1]; exact e.2.1 HEL)
                rw [HEL, ← hp1] at q5
                have y5 : IntKind.i64.wrap ((i : Int) + 1) = (i : Int) + 1 := IntWalk.i64_in _ ⟨by omega, by have := HN2.out; omega⟩
                clear e hp1 HEL
                go_wp2_with (fail)
                refine (sent_l HL.out HS.out (by decide) (by decide) (by decide) 2 (c : Int) true).mono ?_
                rintro x w6 ⟨rfl, hl⟩
                rw [show sentP (at1 2 p) 2 (c : Int) true = (at1 2 p1, false, 0) from q5.out] at hl ⊢
                have HLn := Shut.mk hl
                clear hl HL
                have HL := HLn
                clear HLn
                rw [errV_zero]
                go_wp2_with (fail)
                go_roundw
                case rel =>
                  (repeat apply Exists.intro)
                  refine ⟨?_, rfl⟩
                  exact ⟨i + 1, p1, by omega, by have := HIN.out; omega, by go_num, Shut.mk ⟨HL.out, by have := HPN2.out; rw [show i + 1 - 1 = i - 1 + 1 by have := HI1.out; omega]; exact this⟩⟩
                case measure => have := HIN.out; simp [intOf]; omega

end Go.Proofs.YtaiegmnjoffloaaDoor.psPeriods
