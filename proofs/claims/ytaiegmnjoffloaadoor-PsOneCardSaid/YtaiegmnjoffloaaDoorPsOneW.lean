/-
  The walk of muezzin/muezzinlaw21.PsOne: the Go text returns true.
-/
import Derived.Test.YtaiegmnjoffloaaDoorPsL
import Derived.Test.YtaiegmnjoffloaaDoorOpenU
import Derived.Test.YtaiegmnjoffloaaDoorNum
import Derived.Test.YtaiegmnjoffloaaDoorErrP
import Derived.Test.YtaiegmnjoffloaaDoorPsQ
import Derived.LoopTactic
import Derived.Lib.MinMax
import Derived.Deep.CutRange
import Derived.Deep.CutBlock
import Derived.BigGuard
import Derived.WalkKit
import Derived.ProofKit
import Derived.Below
namespace Go.Proofs.YtaiegmnjoffloaaDoor.psOne
open Go.ChangeShapes Go.WideShapes Go.ChangeAt Go.RowKit Go.Deep
set_option linter.unusedVariables false
set_option linter.unusedSimpArgs false

open Go.Proofs.YtaiegmnjoffloaaDoor

def uT : Nat → Bool := fun _ => true
def pA : Nap := addN uT 0
def pB : Nap := ⟨true, true, false, false, 0, 0, uT⟩
def pC : Nap := ⟨true, true, true, false, 0, 0, uT⟩
theorem e_dA : dozeN pA true = pB := rfl
theorem e_pB : pollN pB = (pC, 0) := rfl
theorem e_pC : pollN pC = (pC, 0) := rfl
theorem e_tC (c : Nat) : trigN pC c = (pC, 110) := by unfold trigN; rw [if_pos (.inr (.inl rfl))]
theorem e_sC : sentN pC true = (pB, false) := rfl
theorem e_dC : dozeN pC false = pA := rfl
theorem e_mA (c : Nat) : mayN pA c = true := rfl
theorem e_mB (c : Nat) : mayN pB c = false := rfl
theorem e_mC (c : Nat) : mayN pC c = true := rfl

/-! ### THE WALK -/
set_option maxRecDepth 100000 in
set_option maxHeartbeats 8000000 in
theorem walk (n0 : Int) (n1 : Int) (n2 : Int) (w : World) (E : Nat → Addr) (hS : Sent w E [101, 102, 103, 104, 105, 106, 107, 108, 109, 110, 111, 112, 113, 114]) (w0 : (Lit.int .i64 n0).wf = true) (w1 : (Lit.int .i64 n1).wf = true) (w2 : (Lit.int .i64 n2).wf = true) :
    Calls Tryd.prog 4 #[.int .i64 n0, .int .i64 n1, .int .i64 n2] w fun e w' => e = .returned (.bool true) ∧ Below w.heap.size w w' := by
  have W0 := Shut.mk w0
  have W1 := Shut.mk w1
  have W2 := Shut.mk w2
  clear w0 w1 w2
  obtain ⟨ka, hka⟩ : ∃ j : Nat, nmod n0 16 = (j : Int) := ⟨(nmod n0 16).toNat, by have := nmod_lo n0 16 (by decide); omega⟩
  have HLka := Shut.mk (show ka < 16 by have := nmod_hi n0 16 (by decide); omega)
  have HEka := Shut.mk hka
  clear hka
  obtain ⟨c, hc⟩ : ∃ j : Nat, nmod n1 4 = (j : Int) := ⟨(nmod n1 4).toNat, by have := nmod_lo n1 4 (by decide); omega⟩
  have HLc := Shut.mk (show c < 4 by have := nmod_hi n1 4 (by decide); omega)
  have HEc := Shut.mk hc
  clear hc
  obtain ⟨m, hm⟩ : ∃ j : Nat, nmod n2 4 = (j : Int) := ⟨(nmod n2 4).toNat, by have := nmod_lo n2 4 (by decide); omega⟩
  have HLm := Shut.mk (show m < 4 by have := nmod_hi n2 4 (by decide); omega)
  have HEm := Shut.mk hm
  clear hm
  have HS := Shut.mk hS
  clear hS
  go_enter Tryd.func4, Tryd.ntmps4
  go_wp2_with (fail)
  refine (first_any w E HS.out (by decide) (by decide) (by decide)).mono ?_
  rintro x wa ⟨rfl, hBa⟩
  have HBa := Shut.mk hBa
  clear hBa
  go_wp2_with (fail)
  refine (number_any n0 16 wa W0.out (by decide) (by decide)).mono ?_
  rintro x wn ⟨rfl, rfl⟩
  rw [HEka.out]
  obtain ⟨k, hk⟩ : ∃ k : Nat, k = ka + 1 := ⟨_, rfl⟩
  have HK1 := Shut.mk (show 1 ≤ k by omega)
  have HK2 := Shut.mk (show k ≤ 16 by have := HLka.out; omega)
  have y1 : (ka : Int) + 1 = (k : Int) := by omega
  have y2 : IntKind.i64.wrap (k : Int) = (k : Int) := IntWalk.i64_in _ ⟨by omega, by have := HK2.out; omega⟩
  clear hk
  go_wp2_with (fail)
  refine (number_any n1 4 wa W1.out (by decide) (by decide)).mono ?_
  rintro x wn ⟨rfl, rfl⟩
  rw [HEc.out]
  go_wp2_with (fail)
  refine (number_any n2 4 wa W2.out (by decide) (by decide)).mono ?_
  rintro x wn ⟨rfl, rfl⟩
  rw [HEm.out]
  obtain ⟨n, hn⟩ : ∃ n : Nat, n = m + 1 := ⟨_, rfl⟩
  have HN1 := Shut.mk (show 1 ≤ n by omega)
  have HN2 := Shut.mk (show n ≤ 4 by have := HLm.out; omega)
  have y3 : (m : Int) + 1 = (n : Int) := by omega
  have y4 : IntKind.i64.wrap (n : Int) = (n : Int) := IntWalk.i64_in _ ⟨by omega, by have := HN2.out; omega⟩
  clear hn W0 W1 W2 HEka HEc HEm
  obtain ⟨w1, hw1⟩ : ∃ w1, w1 = wa.alloc (Obj.cells Tryd.zeroCells31 31 (0, 0)) := ⟨_, rfl⟩
  have HL := Shut.mk (show LawP w w1 wa.heap.size X0 by rw [hw1]; exact LawP.made HBa.out)
  have HW1 := Shut.mk hw1.symm
  obtain ⟨g, hg⟩ : ∃ g, g = wa.heap.size := ⟨_, rfl⟩
  rw [← hg] at HL
  have HGN := Shut.mk hg
  clear hw1 hg
  have q1 := Shut.mk (show addP X0 (k : Int) uT 0 = (at1 k pA, 0) from add_at HK1.out HK2.out uT (Nat.zero_le 8))
  have q2 := Shut.mk (show mayP (at1 k pA) (k : Int) (c : Int) = true from (may_at HK1.out HK2.out rfl HLc.out).trans (e_mA c))
  have q3 := Shut.mk (show dozeP (at1 k pA) (k : Int) true = (at1 k pB, 0) from doze_at HK1.out HK2.out rfl true)
  have q4 := Shut.mk (show mayP (at1 k pB) (k : Int) (c : Int) = false from (may_at HK1.out HK2.out rfl HLc.out).trans (e_mB c))
  have q5 := Shut.mk (show ∀ p, p = pB ∨ p = pC → pollP (at1 k p) (k : Int) = (at1 k pC, 0) from fun p hp => by rcases hp with rfl | rfl <;> exact poll_at HK1.out HK2.out rfl)
  have q6 := Shut.mk (show mayP (at1 k pC) (k : Int) (c : Int) = true from (may_at HK1.out HK2.out rfl HLc.out).trans (e_mC c))
  have q7 := Shut.mk (show askP (at1 k pC) (k : Int) = true from ask_at HK1.out HK2.out rfl)
  have q8 := Shut.mk (show sentP (at1 k pC) (k : Int) (c : Int) true = (at1 k pB, false, 0) from sent_at1 HK1.out HK2.out rfl HLc.out (e_mC c) true)
  have q9 := Shut.mk (show sentP (at1 k pB) (k : Int) (c : Int) true = (at1 k pB, false, 110) from sent_no HK1.out HK2.out rfl HLc.out (e_mB c) true)
  have q10 := Shut.mk (show trigP (at1 k pC) (k : Int) (c : Int) = (at1 k pC, 110) from (trig_at HK1.out HK2.out rfl HLc.out).trans (by rw [e_tC]))
  have q11 := Shut.mk (show dozeP (at1 k pC) (k : Int) false = (at1 k pA, 0) from doze_at HK1.out HK2.out rfl false)
  clear HLka HLm
  go_upto_region 8 with (fail)
  rw [HW1.out, ← HGN.out]
  clear HW1 HGN HBa
  go_wp2_with (fail)
  refine (add_l HL.out HS.out (by decide) (by decide) (k : Int) uT 0).mono ?_
  rintro x w2 ⟨rfl, hl⟩
  rw [q1.out] at hl ⊢
  have HLn := Shut.mk hl
  clear hl HL
  have HL := HLn
  clear HLn
  rw [errV_zero]
  go_wp2_with (fail)
  refine (may_l HL.out (k : Int) (c : Int)).mono ?_
  rintro x wn ⟨rfl, rfl⟩
  rw [q2.out]
  go_wp2_with (fail)
  refine (doze_l HL.out HS.out (by decide) (k : Int) true).mono ?_
  rintro x w3 ⟨rfl, hl⟩
  rw [q3.out] at hl ⊢
  have HLn := Shut.mk hl
  clear hl HL
  have HL := HLn
  clear HLn
  rw [errV_zero]
  go_wp2_with (fail)
  refine (may_l HL.out (k : Int) (c : Int)).mono ?_
  rintro x wn ⟨rfl, rfl⟩
  rw [q4.out]
  go_wp2_with (fail)
  go_loopw [9] (fun s9 wr => ∃ (i : Nat) (p : Nap), i ≤ n ∧ s9 = .int .i64 (i : Int) ∧ Shut (LawP w wr g (at1 k p) ∧ (p = pB ∨ p = pC) ∧ (0 < i → p = pC))) (fun s9 _ => n - (intOf s9).toNat)
  case atStart => exact ⟨0, pB, Nat.zero_le _, rfl, Shut.mk ⟨HL.out, .inl rfl, fun h => absurd h (Nat.lt_irrefl 0)⟩⟩
  case round =>
    clear HL
    obtain ⟨i, p, hi, rfl, HP⟩ := hrel
    have HL := Shut.mk HP.out.1
    by_cases hin : i < n
    · have hin2 : (i : Int) < (n : Int) := by omega
      have q5' := Shut.mk (q5.out p HP.out.2.1)
      have y5 : IntKind.i64.wrap ((i : Int) + 1) = (i : Int) + 1 := IntWalk.i64_in _ ⟨by omega, by have := HN2.out; omega⟩
      have HI := Shut.mk hin
      clear hi hin HP
      go_wp2_with (fail)
      refine (poll_l HL.out HS.out (by decide) (by decide) (k : Int)).mono ?_
      rintro x w4 ⟨rfl, hl⟩
      rw [q5'.out] at hl ⊢
      have HLn := Shut.mk hl
      clear hl HL
      have HL := HLn
      clear HLn
      rw [errV_zero]
      go_wp2_with (fail)
      refine (may_l HL.out (k : Int) (c : Int)).mono ?_
      rintro x wn ⟨rfl, rfl⟩
      rw [q6.out]
      go_wp2_with (fail)
      refine (ask_l HL.out (k : Int)).mono ?_
      rintro x wn ⟨rfl, rfl⟩
      rw [q7.out]
      go_wp2_with (fail)
      go_roundw
      case rel => exact ⟨i + 1, pC, by have := HI.out; omega, by go_num, Shut.mk ⟨HL.out, .inr rfl, fun _ => rfl⟩⟩
      case measure => have := HI.out; simp [intOf]; omega
    · obtain rfl : i = n := by omega
      have hge : ¬ (i : Int) < (i : Int) := by omega
      have hge2 : ¬ i < i := by omega
      obtain rfl := HP.out.2.2 (by have := HN1.out; omega)
      clear hi hin HP HN1 HN2 y4 y3
      go_wp2_with (fail)
      refine (sent_l HL.out HS.out (by decide) (by decide) (by decide) (k : Int) (c : Int) true).mono ?_
      rintro x w4 ⟨rfl, hl⟩
      rw [q8.out] at hl ⊢
      have HLn := Shut.mk hl
      clear hl HL
      have HL := HLn
      clear HLn
      rw [errV_zero]
      go_wp2_with (fail)
      refine (sent_l HL.out HS.out (by decide) (by decide) (by decide) (k : Int) (c : Int) true).mono ?_
      rintro x w5 ⟨rfl, hl⟩
      rw [q9.out] at hl ⊢
      have HLn := Shut.mk hl
      clear hl HL
      have HL := HLn
      clear HLn
      go_wp2_with (fail)
      refine (poll_l HL.out HS.out (by decide) (by decide) (k : Int)).mono ?_
      rintro x w6 ⟨rfl, hl⟩
      rw [q5.out pB (.inl rfl)] at hl ⊢
      have HLn := Shut.mk hl
      clear hl HL
      have HL := HLn
      clear HLn
      rw [errV_zero]
      go_wp2_with (fail)
      refine (trig_l HL.out HS.out (by decide) (by decide) (by decide) (k : Int) (c : Int)).mono ?_
      rintro x w7 ⟨rfl, hl⟩
      rw [q10.out] at hl ⊢
      have HLn := Shut.mk hl
      clear hl HL
      have HL := HLn
      clear HLn
      go_wp2_with (fail)
      refine (doze_l HL.out HS.out (by decide) (k : Int) false).mono ?_
      rintro x w8 ⟨rfl, hl⟩
      rw [q11.out] at hl ⊢
      have HLn := Shut.mk hl
      clear hl HL
      have HL := HLn
      clear HLn
      rw [errV_zero]
      go_wp2_with (fail)
      refine (may_l HL.out (k : Int) (c : Int)).mono ?_
      rintro x wn ⟨rfl, rfl⟩
      rw [q2.out]
      go_wp2_with (fail)
      refine (doze_l HL.out HS.out (by decide) (k : Int) true).mono ?_
      rintro x w9 ⟨rfl, hl⟩
      rw [q3.out] at hl ⊢
      have HLn := Shut.mk hl
      clear hl HL
      have HL := HLn
      clear HLn
      rw [errV_zero]
      go_wp2_with (fail)
      refine (is_any E 110 110 _ (HS.out.below HL.out.bel) (by decide)).mono ?_
      rintro x wx ⟨rfl, hb⟩
      have HLn := Shut.mk (HL.out.quiet hb)
      clear hb HL
      have HL := HLn
      clear HLn
      go_wp2_with (fail)
      refine (is_any E 110 110 _ (HS.out.below HL.out.bel) (by decide)).mono ?_
      rintro x wx ⟨rfl, hb⟩
      have HLn := Shut.mk (HL.out.quiet hb)
      clear hb HL
      have HL := HLn
      clear HLn
      go_wp2_with (fail)
      refine (may_l HL.out (k : Int) (c : Int)).mono ?_
      rintro x wn ⟨rfl, rfl⟩
      rw [q4.out]
      go_wp2_with (fail)
      go_ret
      exact ⟨rfl, HL.out.bel⟩

end Go.Proofs.YtaiegmnjoffloaaDoor.psOne
