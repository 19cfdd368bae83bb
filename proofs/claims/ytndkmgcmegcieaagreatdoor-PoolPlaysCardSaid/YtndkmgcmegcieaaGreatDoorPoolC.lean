/-
  CONTRACT of pool's each, for each of the functions that it is given: R k holds behind k queues.
-/
import Derived.Test.YtndkmgcmegcieaaGreatDoorPoolB
namespace Go.Proofs.YtndkmgcmegcieaaGreatDoor
open Go.ChangeShapes Go.WideShapes Go.ChangeAt Go.RowKit Go.Deep
set_option linter.unusedVariables false
set_option linter.unusedSimpArgs false
theorem size8Q : (Tryz.prog.info? 54).map (·.size) = some 8 := by kernel_rfl
set_option maxRecDepth 100000 in
theorem idx8_run (v0 v1 v2 v3 v4 v5 v6 v7 : Value) (w' : World) :
 (Instr.index 54 (.agg #[v0, v1, v2, v3, v4, v5, v6, v7]) (.int .i64 0)).run Tryz.prog w' = .ok v0 w' ∧ (Instr.index 54 (.agg #[v0, v1, v2, v3, v4, v5, v6, v7]) (.int .i64 1)).run Tryz.prog w' = .ok v1 w' ∧
 (Instr.index 54 (.agg #[v0, v1, v2, v3, v4, v5, v6, v7]) (.int .i64 2)).run Tryz.prog w' = .ok v2 w' ∧ (Instr.index 54 (.agg #[v0, v1, v2, v3, v4, v5, v6, v7]) (.int .i64 3)).run Tryz.prog w' = .ok v3 w' ∧
 (Instr.index 54 (.agg #[v0, v1, v2, v3, v4, v5, v6, v7]) (.int .i64 4)).run Tryz.prog w' = .ok v4 w' ∧ (Instr.index 54 (.agg #[v0, v1, v2, v3, v4, v5, v6, v7]) (.int .i64 5)).run Tryz.prog w' = .ok v5 w' ∧
 (Instr.index 54 (.agg #[v0, v1, v2, v3, v4, v5, v6, v7]) (.int .i64 6)).run Tryz.prog w' = .ok v6 w' ∧ (Instr.index 54 (.agg #[v0, v1, v2, v3, v4, v5, v6, v7]) (.int .i64 7)).run Tryz.prog w' = .ok v7 w' := by
 refine ⟨?_, ?_, ?_, ?_, ?_, ?_, ?_, ?_⟩ <;> kernel_rfl
set_option maxRecDepth 100000 in
theorem idxQ (X : Nat → Option Qs) (k : Nat) {t : Nat} (ht : t < 8) (w' : World) :
 (Instr.index 54 (.agg #[ptrQ (X (8 * k)), ptrQ (X (8 * k + 1)), ptrQ (X (8 * k + 2)), ptrQ (X (8 * k + 3)), ptrQ (X (8 * k + 4)), ptrQ (X (8 * k + 5)), ptrQ (X (8 * k + 6)), ptrQ (X (8 * k + 7))]) (.int .i64 (t : Int))).run Tryz.prog w' = .ok (ptrQ (X (8 * k + t))) w' := by
 obtain ⟨h0, h1, h2, h3, h4, h5, h6, h7⟩ := idx8_run (ptrQ (X (8 * k))) (ptrQ (X (8 * k + 1))) (ptrQ (X (8 * k + 2))) (ptrQ (X (8 * k + 3))) (ptrQ (X (8 * k + 4))) (ptrQ (X (8 * k + 5))) (ptrQ (X (8 * k + 6))) (ptrQ (X (8 * k + 7))) w'
 rcases (show t = 0 ∨ t = 1 ∨ t = 2 ∨ t = 3 ∨ t = 4 ∨ t = 5 ∨ t = 6 ∨ t = 7 by omega) with rfl | rfl | rfl | rfl | rfl | rfl | rfl | rfl <;> assumption
set_option maxRecDepth 100000 in
set_option maxHeartbeats 8000000 in
theorem eachlen_any {T : Nat → Prop} {w : World} {g : Nat} {h : Hd} {X : Nat → Option Qs} (c : Nat) (R : Nat → World → Prop) (h0 : R 0 w) (hP : Shut (∀ k w1, R k w1 → IsPool T w1 g h X))
 (hskip : Shut (∀ k, k < 128 → X k = none → ∀ w1, R k w1 → R (k + 1) w1))
 (hstep : Shut (∀ k, k < 128 → ∀ s, X k = some s → ∀ w1, R k w1 → Calls Tryz.prog 29 #[.pointer (some ⟨s.x.g, 0, none⟩), .pointer (some ⟨c, 0, none⟩)] w1 fun e w2 => e = .returned (.tuple #[]) ∧ R (k + 1) w2)) :
 Calls Tryz.prog 28 #[.pointer (some ⟨g, 0, none⟩), .func (.func 29) #[] #[.pointer (some ⟨c, 0, none⟩)]] w fun e w' => e = .returned (.tuple #[]) ∧ R 128 w' := by
 have H0 := Shut.mk h0
 clear h0
 go_enter Tryz.func28, Tryz.ntmps28
 go_wp2_with (fail)
 go_loopw [7] (fun i wr => ∃ k : Nat, k ≤ 16 ∧ i = .int .i64 k ∧ R (8 * k) wr) (fun i _ => 16 - (intOf i).toNat)
 case atStart => exact ⟨0, by omega, rfl, H0.out⟩
 case round =>
  obtain ⟨k, hk, rfl, hr⟩ := hrel
  have HR := Shut.mk hr
  clear hr
  by_cases hlt : k < 16
  ·have hlti : (k : Int) < 16 := by omega
   have HROW := Shut.mk (show wr.rangeAt g (5 + k * 8) [ptrQ (X (8 * k)), ptrQ (X (8 * k + 1)), ptrQ (X (8 * k + 2)), ptrQ (X (8 * k + 3)), ptrQ (X (8 * k + 4)), ptrQ (X (8 * k + 5)), ptrQ (X (8 * k + 6)), ptrQ (X (8 * k + 7))] from (hP.out _ wr HR.out).row hlt)
   go_wp2_with (first
    | (refine wpList_load_mid rfl 54 (.tmp 14) rfl g (5 + k * 8) rfl [ptrQ (X (8 * k)), ptrQ (X (8 * k + 1)), ptrQ (X (8 * k + 2)), ptrQ (X (8 * k + 3)), ptrQ (X (8 * k + 4)), ptrQ (X (8 * k + 5)), ptrQ (X (8 * k + 6)), ptrQ (X (8 * k + 7))] _ HROW.out Tryz.underlying54 rfl size8Q ?_))
   go_loopw [16] (fun j wr => ∃ t : Nat, t ≤ 8 ∧ j = .int .i64 t ∧ R (8 * k + t) wr) (fun j _ => 8 - (intOf j).toNat)
   case atStart => exact ⟨0, by omega, rfl, HR.out⟩
   case round =>
    clear HR HROW
    obtain ⟨t, ht, rfl, hr⟩ := hrel
    have HR2 := Shut.mk hr
    clear hr
    by_cases htl : t < 8
    ·have htli : (t : Int) < 8 := by omega
     cases hx : X (8 * k + t) with
     | none =>
      have HN := Shut.mk (hskip.out (8 * k + t) (by omega) hx wr HR2.out)
      have hidx := idxQ X k htl wr
      rw [hx, show ptrQ none = Value.pointer none from rfl] at hidx
      clear hx
      go_wp2_with (fail)
      go_roundw
      case rel => exact ⟨t + 1, by omega, by go_num, HN.out⟩
      case measure => simp [intOf]; omega
     | some s =>
      have HC := Shut.mk (hstep.out (8 * k + t) (by omega) s hx wr HR2.out)
      have hidx := idxQ X k htl wr
      rw [hx, show ptrQ (some s) = Value.pointer (some ⟨s.x.g, 0, none⟩) from rfl] at hidx
      clear hx
      go_wp2_with (fail)
      refine HC.out.mono ?_
      rintro e w2 ⟨rfl, hr2⟩
      have HR3 := Shut.mk hr2
      clear hr2
      go_wp2_with (fail)
      go_roundw
      case rel => exact ⟨t + 1, by omega, by go_num, HR3.out⟩
      case measure => simp [intOf]; omega
    ·have ht' : t = 8 := by omega
     subst ht'
     have HR3 := Shut.mk (show R (8 * (k + 1)) wr from HR2.out)
     go_wp2_with (fail)
     go_roundw
     case rel => exact ⟨k + 1, by omega, by go_num, HR3.out⟩
     case measure => simp [intOf]; omega
  ·have hk' : k = 16 := by omega
   subst hk'
   go_wp2_with (fail)
   go_end0
   exact ⟨rfl, HR.out⟩
set_option maxRecDepth 100000 in
set_option maxHeartbeats 8000000 in
theorem eachbyt_any {T : Nat → Prop} {w : World} {g : Nat} {h : Hd} {X : Nat → Option Qs} (c : Nat) (R : Nat → World → Prop) (h0 : R 0 w) (hP : Shut (∀ k w1, R k w1 → IsPool T w1 g h X))
 (hskip : Shut (∀ k, k < 128 → X k = none → ∀ w1, R k w1 → R (k + 1) w1))
 (hstep : Shut (∀ k, k < 128 → ∀ s, X k = some s → ∀ w1, R k w1 → Calls Tryz.prog 46 #[.pointer (some ⟨s.x.g, 0, none⟩), .pointer (some ⟨c, 0, none⟩)] w1 fun e w2 => e = .returned (.tuple #[]) ∧ R (k + 1) w2)) :
 Calls Tryz.prog 28 #[.pointer (some ⟨g, 0, none⟩), .func (.func 46) #[] #[.pointer (some ⟨c, 0, none⟩)]] w fun e w' => e = .returned (.tuple #[]) ∧ R 128 w' := by
 have H0 := Shut.mk h0
 clear h0
 go_enter Tryz.func28, Tryz.ntmps28
 go_wp2_with (fail)
 go_loopw [7] (fun i wr => ∃ k : Nat, k ≤ 16 ∧ i = .int .i64 k ∧ R (8 * k) wr) (fun i _ => 16 - (intOf i).toNat)
 case atStart => exact ⟨0, by omega, rfl, H0.out⟩
 case round =>
  obtain ⟨k, hk, rfl, hr⟩ := hrel
  have HR := Shut.mk hr
  clear hr
  by_cases hlt : k < 16
  ·have hlti : (k : Int) < 16 := by omega
   have HROW := Shut.mk (show wr.rangeAt g (5 + k * 8) [ptrQ (X (8 * k)), ptrQ (X (8 * k + 1)), ptrQ (X (8 * k + 2)), ptrQ (X (8 * k + 3)), ptrQ (X (8 * k + 4)), ptrQ (X (8 * k + 5)), ptrQ (X (8 * k + 6)), ptrQ (X (8 * k + 7))] from (hP.out _ wr HR.out).row hlt)
   go_wp2_with (first
    | (refine wpList_load_mid rfl 54 (.tmp 14) rfl g (5 + k * 8) rfl [ptrQ (X (8 * k)), ptrQ (X (8 * k + 1)), ptrQ (X (8 * k + 2)), ptrQ (X (8 * k + 3)), ptrQ (X (8 * k + 4)), ptrQ (X (8 * k + 5)), ptrQ (X (8 * k + 6)), ptrQ (X (8 * k + 7))] _ HROW.out Tryz.underlying54 rfl size8Q ?_))
   go_loopw [16] (fun j wr => ∃ t : Nat, t ≤ 8 ∧ j = .int .i64 t ∧ R (8 * k + t) wr) (fun j _ => 8 - (intOf j).toNat)
   case atStart => exact ⟨0, by omega, rfl, HR.out⟩
   case round =>
    clear HR HROW
    obtain ⟨t, ht, rfl, hr⟩ := hrel
    have HR2 := Shut.mk hr
    clear hr
    by_cases htl : t < 8
    ·have htli : (t : Int) < 8 := by omega
     cases hx : X (8 * k + t) with
     | none =>
      have HN := Shut.mk (hskip.out (8 * k + t) (by omega) hx wr HR2.out)
      have hidx := idxQ X k htl wr
      rw [hx, show ptrQ none = Value.pointer none from rfl] at hidx
      clear hx
      go_wp2_with (fail)
      go_roundw
      case rel => exact ⟨t + 1, by omega, by go_num, HN.out⟩
      case measure => simp [intOf]; omega
     | some s =>
      have HC := Shut.mk (hstep.out (8 * k + t) (by omega) s hx wr HR2.out)
      have hidx := idxQ X k htl wr
      rw [hx, show ptrQ (some s) = Value.pointer (some ⟨s.x.g, 0, none⟩) from rfl] at hidx
      clear hx
      go_wp2_with (fail)
      refine HC.out.mono ?_
      rintro e w2 ⟨rfl, hr2⟩
      have HR3 := Shut.mk hr2
      clear hr2
      go_wp2_with (fail)
      go_roundw
      case rel => exact ⟨t + 1, by omega, by go_num, HR3.out⟩
      case measure => simp [intOf]; omega
    ·have ht' : t = 8 := by omega
     subst ht'
     have HR3 := Shut.mk (show R (8 * (k + 1)) wr from HR2.out)
     go_wp2_with (fail)
     go_roundw
     case rel => exact ⟨k + 1, by omega, by go_num, HR3.out⟩
     case measure => simp [intOf]; omega
  ·have hk' : k = 16 := by omega
   subst hk'
   go_wp2_with (fail)
   go_end0
   exact ⟨rfl, HR.out⟩
set_option maxRecDepth 100000 in
set_option maxHeartbeats 8000000 in
theorem eachfat_any {T : Nat → Prop} {w : World} {g : Nat} {h : Hd} {X : Nat → Option Qs} (cm cf cb : Nat) (R : Nat → World → Prop) (h0 : R 0 w) (hP : Shut (∀ k w1, R k w1 → IsPool T w1 g h X))
 (hskip : Shut (∀ k, k < 128 → X k = none → ∀ w1, R k w1 → R (k + 1) w1))
 (hstep : Shut (∀ k, k < 128 → ∀ s, X k = some s → ∀ w1, R k w1 → Calls Tryz.prog 79 #[.pointer (some ⟨s.x.g, 0, none⟩), .pointer (some ⟨cm, 0, none⟩), .pointer (some ⟨cf, 0, none⟩), .pointer (some ⟨cb, 0, none⟩)] w1 fun e w2 => e = .returned (.tuple #[]) ∧ R (k + 1) w2)) :
 Calls Tryz.prog 28 #[.pointer (some ⟨g, 0, none⟩), .func (.func 79) #[] #[.pointer (some ⟨cm, 0, none⟩), .pointer (some ⟨cf, 0, none⟩), .pointer (some ⟨cb, 0, none⟩)]] w fun e w' => e = .returned (.tuple #[]) ∧ R 128 w' := by
 have H0 := Shut.mk h0
 clear h0
 go_enter Tryz.func28, Tryz.ntmps28
 go_wp2_with (fail)
 go_loopw [7] (fun i wr => ∃ k : Nat, k ≤ 16 ∧ i = .int .i64 k ∧ R (8 * k) wr) (fun i _ => 16 - (intOf i).toNat)
 case atStart => exact ⟨0, by omega, rfl, H0.out⟩
 case round =>
  obtain ⟨k, hk, rfl, hr⟩ := hrel
  have HR := Shut.mk hr
  clear hr
  by_cases hlt : k < 16
  ·have hlti : (k : Int) < 16 := by omega
   have HROW := Shut.mk (show wr.rangeAt g (5 + k * 8) [ptrQ (X (8 * k)), ptrQ (X (8 * k + 1)), ptrQ (X (8 * k + 2)), ptrQ (X (8 * k + 3)), ptrQ (X (8 * k + 4)), ptrQ (X (8 * k + 5)), ptrQ (X (8 * k + 6)), ptrQ (X (8 * k + 7))] from (hP.out _ wr HR.out).row hlt)
   go_wp2_with (first
    | (refine wpList_load_mid rfl 54 (.tmp 14) rfl g (5 + k * 8) rfl [ptrQ (X (8 * k)), ptrQ (X (8 * k + 1)), ptrQ (X (8 * k + 2)), ptrQ (X (8 * k + 3)), ptrQ (X (8 * k + 4)), ptrQ (X (8 * k + 5)), ptrQ (X (8 * k + 6)), ptrQ (X (8 * k + 7))] _ HROW.out Tryz.underlying54 rfl size8Q ?_))
   go_loopw [16] (fun j wr => ∃ t : Nat, t ≤ 8 ∧ j = .int .i64 t ∧ R (8 * k + t) wr) (fun j _ => 8 - (intOf j).toNat)
   case atStart => exact ⟨0, by omega, rfl, HR.out⟩
   case round =>
    clear HR HROW
    obtain ⟨t, ht, rfl, hr⟩ := hrel
    have HR2 := Shut.mk hr
    clear hr
    by_cases htl : t < 8
    ·have htli : (t : Int) < 8 := by omega
     cases hx : X (8 * k + t) with
     | none =>
      have HN := Shut.mk (hskip.out (8 * k + t) (by omega) hx wr HR2.out)
      have hidx := idxQ X k htl wr
      rw [hx, show ptrQ none = Value.pointer none from rfl] at hidx
      clear hx
      go_wp2_with (fail)
      go_roundw
      case rel => exact ⟨t + 1, by omega, by go_num, HN.out⟩
      case measure => simp [intOf]; omega
     | some s =>
      have HC := Shut.mk (hstep.out (8 * k + t) (by omega) s hx wr HR2.out)
      have hidx := idxQ X k htl wr
      rw [hx, show ptrQ (some s) = Value.pointer (some ⟨s.x.g, 0, none⟩) from rfl] at hidx
      clear hx
      go_wp2_with (fail)
      refine HC.out.mono ?_
      rintro e w2 ⟨rfl, hr2⟩
      have HR3 := Shut.mk hr2
      clear hr2
      go_wp2_with (fail)
      go_roundw
      case rel => exact ⟨t + 1, by omega, by go_num, HR3.out⟩
      case measure => simp [intOf]; omega
    ·have ht' : t = 8 := by omega
     subst ht'
     have HR3 := Shut.mk (show R (8 * (k + 1)) wr from HR2.out)
     go_wp2_with (fail)
     go_roundw
     case rel => exact ⟨k + 1, by omega, by go_num, HR3.out⟩
     case measure => simp [intOf]; omega
  ·have hk' : k = 16 := by omega
   subst hk'
   go_wp2_with (fail)
   go_end0
   exact ⟨rfl, HR.out⟩
end Go.Proofs.YtndkmgcmegcieaaGreatDoor
