/-
  The walk of muezzin/muezzinlaw18.EdcaFirst: the Go text returns true.
-/
import Derived.Test.YtndkmgcmegcieaaDoorEdcaG
import Derived.Test.YtndkmgcmegcieaaDoorEdcaG
import Derived.LoopTactic
import Derived.Deep.CutRange
import Derived.Deep.CutBlock
import Derived.WalkKit
import Derived.ProofKit
import Derived.Below
namespace Go.Proofs.YtndkmgcmegcieaaDoor.edcaFirst
open Go.ChangeShapes Go.WideShapes Go.ChangeAt Go.RowKit Go.Deep
set_option linter.unusedVariables false
set_option linter.unusedSimpArgs false

open Go.Proofs.YtndkmgcmegcieaaDoor

/-! ### THE WALK -/
set_option maxRecDepth 100000 in
set_option maxHeartbeats 8000000 in
theorem walk (n0 : Int) (n1 : Int) (w : World) (hS : Rul w) (w0 : (Lit.int .u32 n0).wf = true) (w1 : (Lit.int .u32 n1).wf = true) :
    Calls Tryd.prog 5 #[.int .u32 n0, .int .u32 n1] w fun e w' => e = .returned (.bool true) ∧ Below w.heap.size w w' := by
  have HR := Shut.mk hS
  clear hS
  have hu0 : 0 ≤ n0 ∧ n0 ≤ 4294967295 := by simpa [Lit.wf, IntKind.min, IntKind.max, IntKind.signed, IntKind.bits] using w0
  obtain ⟨a, ha⟩ := Int.eq_ofNat_of_zero_le hu0.1
  subst ha
  have HA32 := Shut.mk (show a < 4294967296 by omega)
  clear hu0 w0
  have hu1 : 0 ≤ n1 ∧ n1 ≤ 4294967295 := by simpa [Lit.wf, IntKind.min, IntKind.max, IntKind.signed, IntKind.bits] using w1
  obtain ⟨b, hb⟩ := Int.eq_ofNat_of_zero_le hu1.1
  subst hb
  have HB32 := Shut.mk (show b < 4294967296 by omega)
  clear hu1 w1
  go_enter Tryd.func5, Tryd.ntmps5
  go_wp2_with (fail)
  refine (first_any w HR.out).mono ?_
  rintro x wa ⟨rfl, hBa⟩
  have HBa := Shut.mk hBa
  clear hBa
  obtain ⟨x, hx⟩ : ∃ x, x = a % 4 := ⟨_, rfl⟩
  obtain ⟨y, hy⟩ : ∃ y, y = b % 8 := ⟨_, rfl⟩
  have hxr : (a : Int) % 4 = (x : Int) := by omega
  have hyr : (b : Int) % 8 = (y : Int) := by omega
  have HXY := Shut.mk (show x < 4 ∧ y < 8 by omega)
  have y1 : IntKind.i64.wrap (x : Int) = (x : Int) := IntWalk.i64_in _ ⟨by omega, by omega⟩
  have y2 : IntKind.i64.wrap (y : Int) = (y : Int) := IntWalk.i64_in _ ⟨by omega, by omega⟩
  obtain ⟨R, hR'⟩ : ∃ R : Nat → Bool, R = fun i => decide (2 ≤ i) := ⟨_, rfl⟩
  obtain ⟨D, hD'⟩ : ∃ D : Nat → Nat, D = fun i => if i = 2 then y else if i = 3 then x else 0 := ⟨_, rfl⟩
  have HRA := Shut.mk (show bA R = .agg #[.bool false, .bool false, .bool true, .bool true] by rw [hR']; rfl)
  have HDA := Shut.mk (show uA D = .agg #[.int .u32 0, .int .u32 0, .int .u32 (y : Nat), .int .u32 (x : Nat)] by rw [hD']; rfl)
  have HD := Shut.mk (show ∀ a, a < 4 → D a < 4294967296 from fun a _ => by
    rw [hD']
    show (if a = 2 then y else if a = 3 then x else 0) < 4294967296
    split
    · omega
    · split <;> omega)
  have h2 : D 2 % 8 = y := by rw [hD']; show y % 8 = y; omega
  have h3 : D 3 % 4 = x := by rw [hD']; show x % 4 = x; omega
  have htwo := two_high (e := e0) (r := R) (d := D) (by rw [hR']; rfl) (by rw [hR']; rfl) (by rw [hR']; rfl) (by rw [hR']; rfl) rfl rfl rfl rfl
  rw [h2, h3] at htwo
  have HTWO := Shut.mk htwo
  clear hx hy hR' hD' h2 h3 htwo
  have HL0 := Shut.mk (LawE.zero HBa.out HR.out)
  obtain ⟨g, hg⟩ : ∃ g, g = wa.heap.size := ⟨_, rfl⟩
  rw [← hg] at HL0
  have HGG := Shut.mk hg
  clear hg
  go_wp2_with (fail)
  rw [← HGG.out]
  have HCC := Shut.mk (contend_l HL0.out R D HD.out)
  rw [HRA.out, HDA.out] at HCC
  generalize World.alloc wa _ = wb at *
  refine HCC.out.mono ?_
  rintro x' wc ⟨rfl, hL, -⟩
  obtain ⟨E1, hE1⟩ : ∃ E1, E1 = (contE e0 R D).1 := ⟨_, rfl⟩
  rw [← hE1] at hL HTWO
  have HL1 := Shut.mk hL
  clear hL hE1 HL0 HCC HGG
  obtain ⟨A1, hA1⟩ : ∃ A1, A1 = (contE e0 R D).2 := ⟨_, rfl⟩
  rw [← hA1] at HTWO ⊢
  clear hA1 HRA HDA HD
  rcases (show y < x ∨ x = y ∨ x < y by omega) with h | h | h
  · obtain ⟨hA, hct⟩ := HTWO.out.1 h
    rw [hA, ans_some]
    obtain ⟨t, ht⟩ : ∃ t, t = 2 + y := ⟨_, rfl⟩
    obtain ⟨s, hs⟩ : ∃ s, s = x - y := ⟨_, rfl⟩
    have HS := Shut.mk (show 0 < E1.ct 3 ∧ ((E1.ct 3 - 1 : Nat) : Int) = (s : Int) by rw [hct]; omega)
    have HPOS := Shut.mk (show decide (0 < E1.ct 3) = true from by have := HS.out.1; simpa using this)
    have z1 : IntKind.i64.wrap (2 + (y : Int)) = (t : Int) := by rw [IntWalk.i64_in _ ⟨by omega, by omega⟩]; omega
    have z2 : IntKind.u32.wrap ((x : Int) - (y : Int)) = (s : Int) := by rw [IntWalk.u32_in _ ⟨by omega, by omega⟩]; omega
    have z3 : IntKind.i64.wrap (s : Int) = (s : Int) := IntWalk.i64_in _ ⟨by omega, by omega⟩
    have hyx : (y : Int) < (x : Int) := by omega
    rw [← ht]
    clear hA hct ht hs
    go_wp2_with (fail)
    refine (left_in g E1 2 wc HL1.out.ed (by decide)).mono ?_
    rintro x' wd ⟨⟨k, rfl, -, -⟩, rfl⟩
    generalize decide (0 < E1.ct 2) = bb
    go_wp2_with (fail)
    refine (left_in g E1 3 wc HL1.out.ed (by decide)).mono ?_
    rintro x' wd ⟨⟨k2, rfl, hk, -⟩, rfl⟩
    obtain rfl : k2 = (s : Int) := (hk HS.out.1).trans HS.out.2
    rw [HPOS.out]
    clear hk
    go_wp2_with (fail)
    go_ret
    exact ⟨rfl, HL1.out.bel⟩
  · obtain ⟨hA, hct, hw2, hw3⟩ := HTWO.out.2.1 h
    rw [hA, ans_some]
    obtain ⟨t, ht⟩ : ∃ t, t = 2 + x := ⟨_, rfl⟩
    have HNEG := Shut.mk (show decide (0 < E1.ct 2) = false by rw [hct]; rfl)
    have HW2 := Shut.mk hw2
    have HW3 := Shut.mk hw3
    subst h
    have z1 : IntKind.i64.wrap (2 + (x : Int)) = (t : Int) := by rw [IntWalk.i64_in _ ⟨by omega, by omega⟩]; omega
    rw [← ht]
    clear hA hct ht hw2 hw3
    go_wp2_with (fail)
    refine (left_in g E1 2 wc HL1.out.ed (by decide)).mono ?_
    rintro x' wd ⟨⟨k, rfl, -, -⟩, rfl⟩
    rw [HNEG.out]
    go_wp2_with (fail)
    refine (show Calls Tryd.prog 9 #[.pointer (some ⟨g, 0, none⟩), .int .i64 2] wc _ from window_l HL1.out 2 (by decide)).mono ?_
    rintro x' wd ⟨rfl, hL, -⟩
    have HL2 := Shut.mk hL
    rw [HW2.out]
    clear hL
    go_wp2_with (fail)
    refine (show Calls Tryd.prog 9 #[.pointer (some ⟨g, 0, none⟩), .int .i64 3] wd _ from window_l HL2.out 3 (by decide)).mono ?_
    rintro x' we ⟨rfl, hL, -⟩
    have HL3 := Shut.mk hL
    rw [HW3.out]
    clear hL
    go_wp2_with (fail)
    go_ret
    exact ⟨rfl, HL3.out.bel⟩
  · obtain ⟨hA, hct, hw2⟩ := HTWO.out.2.2 h
    rw [hA, ans_some]
    obtain ⟨t, ht⟩ : ∃ t, t = 2 + x := ⟨_, rfl⟩
    obtain ⟨s, hs⟩ : ∃ s, s = y - x := ⟨_, rfl⟩
    have HS := Shut.mk (show 0 < E1.ct 2 ∧ ((E1.ct 2 - 1 : Nat) : Int) = (s : Int) by rw [hct]; omega)
    have HPOS := Shut.mk (show decide (0 < E1.ct 2) = true from by have := HS.out.1; simpa using this)
    have HW2 := Shut.mk hw2
    have z1 : IntKind.i64.wrap (2 + (x : Int)) = (t : Int) := by rw [IntWalk.i64_in _ ⟨by omega, by omega⟩]; omega
    have z2 : IntKind.u32.wrap ((y : Int) - (x : Int)) = (s : Int) := by rw [IntWalk.u32_in _ ⟨by omega, by omega⟩]; omega
    have z3 : IntKind.i64.wrap (s : Int) = (s : Int) := IntWalk.i64_in _ ⟨by omega, by omega⟩
    have hyx : ¬ (y : Int) < (x : Int) := by omega
    have hxy : ((x : Int) == (y : Int)) = false := by simp; omega
    rw [← ht]
    clear hA hct ht hs hw2
    go_wp2_with (fail)
    refine (left_in g E1 2 wc HL1.out.ed (by decide)).mono ?_
    rintro x' wd ⟨⟨k2, rfl, hk, -⟩, rfl⟩
    obtain rfl : k2 = (s : Int) := (hk HS.out.1).trans HS.out.2
    rw [HPOS.out]
    clear hk
    go_wp2_with (fail)
    refine (show Calls Tryd.prog 9 #[.pointer (some ⟨g, 0, none⟩), .int .i64 2] wc _ from window_l HL1.out 2 (by decide)).mono ?_
    rintro x' wd ⟨rfl, hL, -⟩
    have HL2 := Shut.mk hL
    rw [HW2.out]
    clear hL
    go_wp2_with (fail)
    go_ret
    exact ⟨rfl, HL2.out.bel⟩

end Go.Proofs.YtndkmgcmegcieaaDoor.edcaFirst
