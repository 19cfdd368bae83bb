/-
  The walk of muezzin/muezzinlaw20.SchedComes: the Go text returns true.
-/
import Derived.Test.YtkmblmnffnhpmaaDoorSchedF
import Derived.Test.YtkmblmnffnhpmaaDoorNum
import Derived.LoopTactic
import Derived.Lib.MinMax
import Derived.Deep.CutRange
import Derived.Deep.CutBlock
import Derived.WalkKit
import Derived.ProofKit
import Derived.Below
namespace Go.Proofs.YtkmblmnffnhpmaaDoor.schedComes
open Go.ChangeShapes Go.WideShapes Go.ChangeAt Go.RowKit Go.Deep
set_option linter.unusedVariables false
set_option linter.unusedSimpArgs false

open Go.Proofs.YtkmblmnffnhpmaaDoor

def lk : Nat → List Tu
  | 0 => []
  | 1 => []
  | 2 => [⟨1, 100, 0, true⟩]
  | 3 => [⟨1, 100, 0, true⟩, ⟨2, 100, 0, true⟩]
  | _ => [⟨1, 100, 0, true⟩, ⟨2, 100, 0, true⟩, ⟨3, 100, 0, false⟩]
def l3 (a b c : Nat) (on : Bool) : List Tu := [⟨1, 100, 100 * a, true⟩, ⟨2, 100, 100 * b, true⟩, ⟨3, 100, 100 * c, on⟩]
theorem air_few {a : Nat} (h : a < 1000000) : airT (a : Int) = true := by unfold airT; simp; omega
theorem tm_few {t a : Nat} {x : Nat} {on : Bool} (h : a < 1000000) : tmT ⟨x, 100, 0, on⟩ a = 100 * a := by unfold tmT; show min (0 + 10000 * a / 100) _ = _; omega
theorem ch_1 {a : Nat} (h : a < 1000000) : chT (l3 0 0 0 false) 1 (a : Int) = (l3 a 0 0 false, 0) := by
  unfold chT
  rw [if_pos (show hasT (l3 0 0 0 false) 1 = true from rfl), if_pos (air_few h), Int.toNat_natCast]
  exact congrArg (fun z => (([⟨1, 100, z, true⟩, ⟨2, 100, 100 * 0, true⟩, ⟨3, 100, 100 * 0, false⟩] : List Tu), 0)) (tm_few (t := 0) h)
theorem ch_2 {a b : Nat} (h : b < 1000000) : chT (l3 a 0 0 false) 2 (b : Int) = (l3 a b 0 false, 0) := by
  unfold chT
  rw [if_pos (show hasT (l3 a 0 0 false) 2 = true from rfl), if_pos (air_few h), Int.toNat_natCast]
  exact congrArg (fun z => (([⟨1, 100, 100 * a, true⟩, ⟨2, 100, z, true⟩, ⟨3, 100, 100 * 0, false⟩] : List Tu), 0)) (tm_few (t := 0) h)
theorem ch_3 {a b c : Nat} (h : c < 1000000) : chT (l3 a b 0 false) 3 (c : Int) = (l3 a b c false, 0) := by
  unfold chT
  rw [if_pos (show hasT (l3 a b 0 false) 3 = true from rfl), if_pos (air_few h), Int.toNat_natCast]
  exact congrArg (fun z => (([⟨1, 100, 100 * a, true⟩, ⟨2, 100, 100 * b, true⟩, ⟨3, 100, z, false⟩] : List Tu), 0)) (tm_few (t := 0) h)
def l4 (a b z : Nat) : List Tu := [⟨1, 100, 100 * a, true⟩, ⟨2, 100, 100 * b, true⟩, ⟨3, 100, z, true⟩]
theorem come_1 (a b c : Nat) : actT (l3 a b c false) 3 true = (l4 a b (max (100 * c) (100 * min a b)), 0) := by
  unfold actT
  rw [if_pos (show hasT (l3 a b c false) 3 = true from rfl)]
  have e : orderT [] (l3 a b c false) = putT [⟨1, 100, 100 * a, true⟩] ⟨2, 100, 100 * b, true⟩ := rfl
  have e2 : actOf (l3 a b c false) ⟨3, 100, 100 * c, false⟩ true = ⟨3, 100, max (100 * c) (100 * min a b), true⟩ := by
    unfold actOf
    rw [if_pos ⟨rfl, rfl⟩, e]
    unfold putT
    by_cases h : a ≤ b
    · have hl : leT ⟨1, 100, 100 * a, true⟩ ⟨2, 100, 100 * b, true⟩ := by unfold leT; dsimp only; omega
      rw [List.takeWhile_cons_of_pos (by simpa using hl), Nat.min_eq_left h]
      rfl
    · have hl : ¬ leT ⟨1, 100, 100 * a, true⟩ ⟨2, 100, 100 * b, true⟩ := by unfold leT; dsimp only; omega
      rw [List.takeWhile_cons_of_neg (by simpa using hl), Nat.min_eq_right (by omega)]
      rfl
  exact congrArg (fun z => (([⟨1, 100, 100 * a, true⟩, ⟨2, 100, 100 * b, true⟩, z] : List Tu), 0)) e2
theorem come_2 (a b z : Nat) : actT (l4 a b z) 3 true = (l4 a b z, 0) := by
  unfold actT
  rw [if_pos (show hasT (l4 a b z) 3 = true from rfl)]
  have e2 : actOf (l4 a b z) ⟨3, 100, z, true⟩ true = ⟨3, 100, z, true⟩ := by
    unfold actOf
    rw [if_neg (by simp)]
  exact congrArg (fun z => (([⟨1, 100, 100 * a, true⟩, ⟨2, 100, 100 * b, true⟩, z] : List Tu), 0)) e2
theorem come_time (a b z : Nat) : timeT (l4 a b z) 3 = (z, true) := rfl
theorem come_len (a b z : Nat) : (ordI (l4 a b z)).length = 3 := by
  unfold ordI
  rw [List.length_map, (orderT_perm (l4 a b z) []).length_eq]
  rfl

/-! ### THE WALK -/
set_option maxRecDepth 100000 in
set_option maxHeartbeats 8000000 in
theorem walk (n0 : Int) (n1 : Int) (n2 : Int) (w : World) (E : Nat → Addr) (hS : Sent w E [103, 107, 108]) (w0 : (Lit.int .i64 n0).wf = true) (w1 : (Lit.int .i64 n1).wf = true) (w2 : (Lit.int .i64 n2).wf = true) :
    Calls Tryd.prog 5 #[.int .i64 n0, .int .i64 n1, .int .i64 n2] w fun e w' => e = .returned (.bool true) ∧ Below w.heap.size w w' := by
  have HS := Shut.mk hS
  have W0 := Shut.mk w0
  have W1 := Shut.mk w1
  have W2 := Shut.mk w2
  clear hS w0 w1 w2
  obtain ⟨a, ha⟩ : ∃ a : Nat, nmod n0 1000000 = (a : Int) := ⟨(nmod n0 1000000).toNat, by have := nmod_lo n0 1000000 (by decide); omega⟩
  obtain ⟨b, hb⟩ : ∃ a : Nat, nmod n1 1000000 = (a : Int) := ⟨(nmod n1 1000000).toNat, by have := nmod_lo n1 1000000 (by decide); omega⟩
  obtain ⟨c, hc⟩ : ∃ a : Nat, nmod n2 1000000 = (a : Int) := ⟨(nmod n2 1000000).toNat, by have := nmod_lo n2 1000000 (by decide); omega⟩
  have HAL := Shut.mk (show a < 1000000 by have := nmod_hi n0 1000000 (by decide); omega)
  have HBL := Shut.mk (show b < 1000000 by have := nmod_hi n1 1000000 (by decide); omega)
  have HCL := Shut.mk (show c < 1000000 by have := nmod_hi n2 1000000 (by decide); omega)
  have HEA := Shut.mk ha
  have HEB := Shut.mk hb
  have HEC := Shut.mk hc
  clear ha hb hc
  go_enter Tryd.func5, Tryd.ntmps5
  go_wp2_with (fail)
  refine (first_any w E HS.out (by decide) (by decide) (by decide)).mono ?_
  rintro x wa ⟨rfl, hBa⟩
  have HBa := Shut.mk hBa
  clear hBa
  go_wp2_with (fail)
  refine (number_any n0 1000000 wa W0.out (by decide) (by decide)).mono ?_
  rintro x wn ⟨rfl, rfl⟩
  rw [HEA.out]
  go_wp2_with (fail)
  refine (number_any n1 1000000 wa W1.out (by decide) (by decide)).mono ?_
  rintro x wn ⟨rfl, rfl⟩
  rw [HEB.out]
  go_wp2_with (fail)
  refine (number_any n2 1000000 wa W2.out (by decide) (by decide)).mono ?_
  rintro x wn ⟨rfl, rfl⟩
  rw [HEC.out]
  clear W0 W1 W2 HEA HEB HEC
  go_wp2_with (fail)
  refine (new_l HBa.out).mono ?_
  rintro x wb ⟨S, g, rfl, hl, hb, hs⟩
  have HL0 := Shut.mk (show ∃ S, LawS w wb S g (lk 1) from ⟨S, hl⟩)
  clear hl hb hs
  go_wp2_with (fail)
  go_loopw [9] (fun s9 wr => ∃ k : Nat, 1 ≤ k ∧ k ≤ 4 ∧ s9 = .int .i64 (k : Int) ∧ Shut (∃ S, LawS w wr S g (lk k))) (fun s9 _ => 4 - (intOf s9).toNat)
  case atStart => exact ⟨1, by omega, by omega, rfl, HL0⟩
  case round =>
    clear HL0
    obtain ⟨k, hk1, hk4, rfl, HLX⟩ := hrel
    obtain ⟨S1, hl1⟩ := HLX.out
    have HL1 := Shut.mk hl1
    clear hl1 HLX
    rcases (show k = 1 ∨ k = 2 ∨ k = 3 ∨ k = 4 by omega) with rfl | rfl | rfl | rfl
    · have q1 := Shut.mk (show addT (lk 1) 1 100 = ([⟨1, 100, 0, false⟩], 0) from rfl)
      have q2 := Shut.mk (show actT [⟨1, 100, 0, false⟩] 1 true = (lk 2, 0) from rfl)
      clear hk1 hk4
      go_wp2_with (fail)
      refine (add_l HL1.out (by decide) HS.out (by decide) (by decide) 1 100).mono ?_
      rintro x wc ⟨rfl, hst⟩
      rw [q1.out] at hst ⊢
      obtain ⟨HL2S, hl, ho, hf⟩ := hst
      rw [errV_zero]
      have HL2 := Shut.mk hl
      clear hl ho hf HL1
      go_wp2_with (fail)
      refine (active_l HL2.out HS.out (by decide) 1 true).mono ?_
      rintro x wd ⟨rfl, hst⟩
      rw [q2.out] at hst ⊢
      obtain ⟨HL3S, hl, ho, hf⟩ := hst
      rw [errV_zero]
      have HL3 := Shut.mk hl
      clear hl ho hf HL2
      go_wp2_with (fail)
      go_roundw
      case rel => exact ⟨2, by omega, by omega, rfl, Shut.mk ⟨_, HL3.out⟩⟩
      case measure => simp [intOf]
    · have q1 := Shut.mk (show addT (lk 2) 2 100 = ([⟨1, 100, 0, true⟩, ⟨2, 100, 0, false⟩], 0) from rfl)
      have q2 := Shut.mk (show actT [⟨1, 100, 0, true⟩, ⟨2, 100, 0, false⟩] 2 true = (lk 3, 0) from rfl)
      clear hk1 hk4
      go_wp2_with (fail)
      refine (add_l HL1.out (by decide) HS.out (by decide) (by decide) 2 100).mono ?_
      rintro x wc ⟨rfl, hst⟩
      rw [q1.out] at hst ⊢
      obtain ⟨HL2S, hl, ho, hf⟩ := hst
      rw [errV_zero]
      have HL2 := Shut.mk hl
      clear hl ho hf HL1
      go_wp2_with (fail)
      refine (active_l HL2.out HS.out (by decide) 2 true).mono ?_
      rintro x wd ⟨rfl, hst⟩
      rw [q2.out] at hst ⊢
      obtain ⟨HL3S, hl, ho, hf⟩ := hst
      rw [errV_zero]
      have HL3 := Shut.mk hl
      clear hl ho hf HL2
      go_wp2_with (fail)
      go_roundw
      case rel => exact ⟨3, by omega, by omega, rfl, Shut.mk ⟨_, HL3.out⟩⟩
      case measure => simp [intOf]
    · have q1 := Shut.mk (show addT (lk 3) 3 100 = ([⟨1, 100, 0, true⟩, ⟨2, 100, 0, true⟩, ⟨3, 100, 0, false⟩], 0) from rfl)
      have q2 := Shut.mk (show actT [⟨1, 100, 0, true⟩, ⟨2, 100, 0, true⟩, ⟨3, 100, 0, false⟩] 3 false = (lk 4, 0) from rfl)
      clear hk1 hk4
      go_wp2_with (fail)
      refine (add_l HL1.out (by decide) HS.out (by decide) (by decide) 3 100).mono ?_
      rintro x wc ⟨rfl, hst⟩
      rw [q1.out] at hst ⊢
      obtain ⟨HL2S, hl, ho, hf⟩ := hst
      rw [errV_zero]
      have HL2 := Shut.mk hl
      clear hl ho hf HL1
      go_wp2_with (fail)
      refine (active_l HL2.out HS.out (by decide) 3 false).mono ?_
      rintro x wd ⟨rfl, hst⟩
      rw [q2.out] at hst ⊢
      obtain ⟨HL3S, hl, ho, hf⟩ := hst
      rw [errV_zero]
      have HL3 := Shut.mk hl
      clear hl ho hf HL2
      go_wp2_with (fail)
      go_roundw
      case rel => exact ⟨4, by omega, by omega, rfl, Shut.mk ⟨_, HL3.out⟩⟩
      case measure => simp [intOf]
    · have HL4 := Shut.mk (show LawS w wr S1 g (l3 0 0 0 false) from HL1.out)
      have c1 := Shut.mk (ch_1 HAL.out)
      have c2 := Shut.mk (ch_2 (a := a) HBL.out)
      have c3 := Shut.mk (ch_3 (a := a) (b := b) HCL.out)
      have c4 := Shut.mk (come_1 a b c)
      obtain ⟨z, hz⟩ : ∃ z, z = max (100 * c) (100 * min a b) := ⟨_, rfl⟩
      rw [← hz] at c4
      have y1 : IntKind.i64.wrap (100 * (c : Int)) = 100 * (c : Int) := by have := HCL.out; exact IntWalk.i64_in _ ⟨by omega, by omega⟩
      have y2 : min (a : Int) (b : Int) = ((min a b : Nat) : Int) := by omega
      obtain ⟨mn, hmn⟩ : ∃ mn, mn = min a b := ⟨_, rfl⟩
      rw [← hmn] at y2 hz
      have y3 : IntKind.i64.wrap (100 * (mn : Int)) = 100 * (mn : Int) := by have := HAL.out; have := HBL.out; exact IntWalk.i64_in _ ⟨by omega, by omega⟩
      have y4 : max (100 * (c : Int)) (100 * (mn : Int)) = (z : Int) := by omega
      clear hk1 hk4 HL1 hz hmn
      go_wp2_with (fail)
      refine (charge_l HL4.out HS.out (by decide) (by decide) 1 (a : Int)).mono ?_
      rintro x wc ⟨rfl, hst⟩
      rw [c1.out] at hst ⊢
      obtain ⟨HL5S, hl, ho, hf⟩ := hst
      rw [errV_zero]
      have HL5 := Shut.mk hl
      clear hl ho hf HL4
      go_wp2_with (fail)
      refine (charge_l HL5.out HS.out (by decide) (by decide) 2 (b : Int)).mono ?_
      rintro x wd ⟨rfl, hst⟩
      rw [c2.out] at hst ⊢
      obtain ⟨HL6S, hl, ho, hf⟩ := hst
      rw [errV_zero]
      have HL6 := Shut.mk hl
      clear hl ho hf HL5
      go_wp2_with (fail)
      refine (charge_l HL6.out HS.out (by decide) (by decide) 3 (c : Int)).mono ?_
      rintro x we ⟨rfl, hst⟩
      rw [c3.out] at hst ⊢
      obtain ⟨HL7S, hl, ho, hf⟩ := hst
      rw [errV_zero]
      have HL7 := Shut.mk hl
      clear hl ho hf HL6
      go_wp2_with (fail)
      refine (active_l HL7.out HS.out (by decide) 3 true).mono ?_
      rintro x wf ⟨rfl, hst⟩
      rw [c4.out] at hst ⊢
      obtain ⟨HL8S, hl, ho, hf⟩ := hst
      rw [errV_zero]
      have HL8 := Shut.mk hl
      clear hl ho hf HL7
      go_wp2_with (fail)
      refine (time_l HL8.out 3).mono ?_
      rintro x wg ⟨rfl, hl, hb⟩
      rw [come_time]
      have HL9 := Shut.mk hl
      clear hl hb HL8
      go_wp2_with (fail)
      refine (active_l HL9.out HS.out (by decide) 3 true).mono ?_
      rintro x wh ⟨rfl, hst⟩
      rw [come_2] at hst ⊢
      obtain ⟨HL10S, hl, ho, hf⟩ := hst
      rw [errV_zero]
      have HL10 := Shut.mk hl
      clear hl ho hf HL9
      go_wp2_with (fail)
      refine (time_l HL10.out 3).mono ?_
      rintro x wi ⟨rfl, hl, hb⟩
      rw [come_time]
      have HL11 := Shut.mk hl
      clear hl hb HL10
      go_wp2_with (fail)
      refine (order_l HL11.out).mono ?_
      rintro x wj ⟨A1, c1', rfl, hr, hp, S', hl, ho, hf, hq⟩
      rw [come_len]
      have HBF := Shut.mk hl.bel
      clear hr hp hl ho hf hq HL11
      go_wp2_with (fail)
      go_ret
      exact ⟨rfl, HBF.out⟩

end Go.Proofs.YtkmblmnffnhpmaaDoor.schedComes
