/-
  The walk of muezzin/muezzinlaw18.EdcaNone: the Go text returns true.
-/
import Derived.Test.YtndkmgcmegcieaaDoorEdcaG
import Derived.Test.YtndkmgcmegcieaaDoorEdcaG
import Derived.LoopTactic
import Derived.Deep.CutRange
import Derived.Deep.CutBlock
import Derived.WalkKit
import Derived.ProofKit
import Derived.Below
namespace Go.Proofs.YtndkmgcmegcieaaDoor.edcaNone
open Go.ChangeShapes Go.WideShapes Go.ChangeAt Go.RowKit Go.Deep
set_option linter.unusedVariables false
set_option linter.unusedSimpArgs false

open Go.Proofs.YtndkmgcmegcieaaDoor

/-! ### THE WALK -/
set_option maxRecDepth 100000 in
set_option maxHeartbeats 8000000 in
theorem walk (n0 : Int) (n1 : Int) (n2 : Int) (w : World) (hS : Rul w) (w0 : (Lit.int .u32 n0).wf = true) (w1 : (Lit.int .u32 n1).wf = true) (w2 : (Lit.int .u32 n2).wf = true) :
    Calls Tryd.prog 6 #[.int .u32 n0, .int .u32 n1, .int .u32 n2] w fun e w' => e = .returned (.bool true) ∧ Below w.heap.size w w' := by
  have HR := Shut.mk hS
  clear hS
  have hu0 : 0 ≤ n0 ∧ n0 ≤ 4294967295 := by simpa [Lit.wf, IntKind.min, IntKind.max, IntKind.signed, IntKind.bits] using w0
  obtain ⟨a, ha⟩ := Int.eq_ofNat_of_zero_le hu0.1
  subst ha
  have HA32 := Shut.mk (show a < 4294967296 by omega)
  clear hu0 w0
  have hu1 : 0 ≤ n1 ∧ n1 ≤ 4294967295 := by simpa [Lit.wf, IntKind.min, IntKind.max, IntKind.signed, IntKind.bits] using w1
  obtain ⟨b, hb⟩ := Int.eq_ofNat_of_zero_le hu1.1
  subst hb
  have HB32 := Shut.mk (show b < 4294967296 by omega)
  clear hu1 w1
  have hu2 : 0 ≤ n2 ∧ n2 ≤ 4294967295 := by simpa [Lit.wf, IntKind.min, IntKind.max, IntKind.signed, IntKind.bits] using w2
  obtain ⟨c, hc⟩ := Int.eq_ofNat_of_zero_le hu2.1
  subst hc
  have HC32 := Shut.mk (show c < 4294967296 by omega)
  clear hu2 w2
  go_enter Tryd.func6, Tryd.ntmps6
  go_wp2_with (fail)
  refine (first_any w HR.out).mono ?_
  rintro x wa ⟨rfl, hBa⟩
  have HBa := Shut.mk hBa
  clear hBa
  obtain ⟨x, hx⟩ : ∃ x, x = a % 16 := ⟨_, rfl⟩
  obtain ⟨y, hy⟩ : ∃ y, y = b % 16 := ⟨_, rfl⟩
  obtain ⟨v, hv⟩ : ∃ v, v = c % 4 := ⟨_, rfl⟩
  have hxr : (a : Int) % 16 = (x : Int) := by omega
  have hyr : (b : Int) % 16 = (y : Int) := by omega
  have hvr : (c : Int) % 4 = (v : Int) := by omega
  have HXY := Shut.mk (show x < 16 ∧ y < 16 ∧ v < 4 by omega)
  have HV := Shut.mk hv
  have y1 : IntKind.i64.wrap (x : Int) = (x : Int) := IntWalk.i64_in _ ⟨by omega, by omega⟩
  have y2 : IntKind.i64.wrap (y : Int) = (y : Int) := IntWalk.i64_in _ ⟨by omega, by omega⟩
  have y3 : IntKind.i64.wrap (v : Int) = (v : Int) := IntWalk.i64_in _ ⟨by omega, by omega⟩
  obtain ⟨x7, hx7⟩ : ∃ x7, x7 = 7 + x := ⟨_, rfl⟩
  obtain ⟨y3', hy3⟩ : ∃ y3, y3 = 3 + y := ⟨_, rfl⟩
  obtain ⟨v2, hv2⟩ : ∃ v2, v2 = 2 + v := ⟨_, rfl⟩
  have y4 : IntKind.u32.wrap (7 + (x : Int)) = (x7 : Int) := by rw [IntWalk.u32_in _ ⟨by omega, by omega⟩]; omega
  have y5 : IntKind.u32.wrap (3 + (y : Int)) = (y3' : Int) := by rw [IntWalk.u32_in _ ⟨by omega, by omega⟩]; omega
  have y6 : IntKind.i64.wrap (2 + (v : Int)) = (v2 : Int) := by rw [IntWalk.i64_in _ ⟨by omega, by omega⟩]; omega
  have HX7 := Shut.mk hx7
  have HY3 := Shut.mk hy3
  have HV2 := Shut.mk hv2
  clear hx hy hv hx7 hy3 hv2
  -- the first call: nobody is ready
  obtain ⟨R0, hR0⟩ : ∃ R : Nat → Bool, R = fun _ => false := ⟨_, rfl⟩
  obtain ⟨D0, hD0⟩ : ∃ D : Nat → Nat, D = fun i => if i = 0 then a else if i = 1 then b else if i = 2 then c else a := ⟨_, rfl⟩
  have HR0 := Shut.mk (show bA R0 = .agg #[.bool false, .bool false, .bool false, .bool false] by rw [hR0]; rfl)
  have HD0 := Shut.mk (show uA D0 = .agg #[.int .u32 (a : Nat), .int .u32 (b : Nat), .int .u32 (c : Nat), .int .u32 (a : Nat)] by rw [hD0]; rfl)
  have HDB0 := Shut.mk (show ∀ i, i < 4 → D0 i < 4294967296 from fun i _ => by
    have h1 := HA32.out
    have h2 := HB32.out
    have h3 := HC32.out
    rw [hD0]
    show (if i = 0 then a else if i = 1 then b else if i = 2 then c else a) < 4294967296
    split
    · exact h1
    · split
      · exact h2
      · split
        · exact h3
        · exact h1)
  have hno := cont_none (e := e0) (r := R0) (d := D0) (by rw [hR0]; exact fun _ _ => rfl)
  have HNO := Shut.mk hno
  clear hR0 hD0 hno
  have HL0 := Shut.mk (LawE.zero HBa.out HR.out)
  obtain ⟨g, hg⟩ : ∃ g, g = wa.heap.size := ⟨_, rfl⟩
  rw [← hg] at HL0
  have HGG := Shut.mk hg
  clear hg
  go_wp2_with (fail)
  rw [← HGG.out]
  have HCC := Shut.mk (contend_l HL0.out R0 D0 HDB0.out)
  rw [HR0.out, HD0.out, HNO.out.1, ans_none] at HCC
  generalize World.alloc wa _ = wb at *
  refine HCC.out.mono ?_
  rintro x' wc ⟨rfl, hL, -⟩
  have HL1 := Shut.mk (hL.like (e' := e0) (fun a ha => ⟨by rw [HNO.out.2.2], HNO.out.2.1 a ha⟩) inv_e0)
  clear hL HL0 HCC HGG HR0 HD0 HDB0 HNO
  -- the second: the two low ones
  obtain ⟨R, hR'⟩ : ∃ R : Nat → Bool, R = fun i => decide (i < 2) := ⟨_, rfl⟩
  obtain ⟨D, hD'⟩ : ∃ D : Nat → Nat, D = fun i => if i = 0 then x else if i = 1 then y else 0 := ⟨_, rfl⟩
  have HRA := Shut.mk (show bA R = .agg #[.bool true, .bool true, .bool false, .bool false] by rw [hR']; rfl)
  have HDA := Shut.mk (show uA D = .agg #[.int .u32 (x : Nat), .int .u32 (y : Nat), .int .u32 0, .int .u32 0] by rw [hD']; rfl)
  have HD := Shut.mk (show ∀ i, i < 4 → D i < 4294967296 from fun i _ => by
    have h1 := HXY.out
    rw [hD']
    show (if i = 0 then x else if i = 1 then y else 0) < 4294967296
    split
    · omega
    · split <;> omega)
  have h2 : D 0 % 16 = x := by rw [hD']; show x % 16 = x; have := HXY.out; omega
  have h3 : D 1 % 16 = y := by rw [hD']; show y % 16 = y; have := HXY.out; omega
  have htwo := two_low (e := e0) (r := R) (d := D) (by rw [hR']; rfl) (by rw [hR']; rfl) (by rw [hR']; rfl) (by rw [hR']; rfl) rfl rfl rfl rfl
  rw [h2, h3, ← HX7.out, ← HY3.out] at htwo
  have HTWO := Shut.mk htwo
  have HK3 := Shut.mk (show (contE e0 R D).1.ct 3 = 0 ∧ (contE e0 R D).1.wd 3 = 0 from cont_keep (e := e0) (r := R) (d := D) (a := 3) (by rw [hR']; rfl))
  clear hR' hD' h2 h3 htwo
  go_wp2_with (fail)
  have HCC := Shut.mk (contend_l HL1.out R D HD.out)
  rw [HRA.out, HDA.out] at HCC
  refine HCC.out.mono ?_
  rintro x' wd ⟨rfl, hL, -⟩
  obtain ⟨E1, hE1⟩ : ∃ E1, E1 = (contE e0 R D).1 := ⟨_, rfl⟩
  rw [← hE1] at hL HTWO HK3
  have HL2 := Shut.mk hL
  clear hL hE1 HL1 HCC
  obtain ⟨A1, hA1⟩ : ∃ A1, A1 = (contE e0 R D).2 := ⟨_, rfl⟩
  rw [← hA1] at HTWO ⊢
  clear hA1 HRA HDA HD
  rcases (show y3' < x7 ∨ x7 < y3' ∨ x7 = y3' by omega) with h | h | h
  · obtain ⟨hA, hct⟩ := HTWO.out.1 h
    rw [hA, ans_some]
    obtain ⟨m, hm⟩ : ∃ m : Int, m = max ((y3' : Nat) - (7 : Int)) 0 := ⟨_, rfl⟩
    obtain ⟨s, hs⟩ : ∃ s : Nat, s = x - (y3' - 7) := ⟨_, rfl⟩
    have hxx := HXY.out
    have hx7' := HX7.out
    have hy3x := HY3.out
    have HS := Shut.mk (show 0 < E1.ct 0 ∧ E1.ct 0 = s + 1 ∧ ((E1.ct 0 - 1 : Nat) : Int) = (s : Int) by rw [hct]; omega)
    have HPOS := Shut.mk (show decide (0 < E1.ct 0) = true from by have := HS.out.1; simpa using this)
    have z1 : IntKind.i64.wrap ((y3' : Nat) - (7 : Int)) = (y3' : Nat) - (7 : Int) := IntWalk.i64_in _ ⟨by omega, by omega⟩
    have z2 : max ((y3' : Nat) - (7 : Int)) 0 = m := hm.symm
    have z3 : IntKind.i64.wrap ((x : Nat) - m) = (s : Int) := by rw [IntWalk.i64_in _ ⟨by omega, by omega⟩]; omega
    have z4 : max (s : Int) 0 = (s : Int) := by omega
    have HSB := Shut.mk (show s ≤ 100 by omega)
    have hlt1 : ((y3' : Int) < (x7 : Int)) := by omega
    have hlt2 : ((x7 : Int) == (y3' : Int)) = false := by simp; omega
    have HQ := Shut.mk ((Below.refl wd.heap.size wd).alloc (Nat.le_refl _) (Obj.cells #[.int .i64 7, .int .i64 3] 3 (0, 0)))
    have HSL := Shut.mk (MapKept.heap_alloc wd (Obj.cells #[.int .i64 7, .int .i64 3] 3 (0, 0))).1
    have HSG := Shut.mk (show wd.heap.size ≠ g from fun e => by have := lt_blk HL2.out.ed; omega)
    clear hA hct hm hs hxx hx7' hy3x h
    go_wp2_with (fail)
    have HL3 := Shut.mk (HL2.out.quiet HQ.out)
    generalize World.alloc wd _ = we at *
    obtain ⟨gs, hgs⟩ : ∃ gs, gs = wd.heap.size := ⟨_, rfl⟩
    rw [← hgs] at HSL HSG ⊢
    clear hgs HQ HL2
    refine (show Calls Tryd.prog 15 #[.pointer (some ⟨g, 0, none⟩), .int .i64 0] we _ from left_in g E1 0 we HL3.out.ed (by decide)).mono ?_
    rintro x' wz ⟨⟨k2, rfl, hk, -⟩, rfl⟩
    obtain rfl : k2 = (s : Int) := (hk HS.out.1).trans HS.out.2.2
    rw [HPOS.out]
    clear hk
    -- voice goes
    obtain ⟨R3, hR3⟩ : ∃ R : Nat → Bool, R = fun i => decide (i = 3) := ⟨_, rfl⟩
    obtain ⟨D3, hD3⟩ : ∃ D : Nat → Nat, D = fun i => if i = 3 then c else 0 := ⟨_, rfl⟩
    have HR3 := Shut.mk (show bA R3 = .agg #[.bool false, .bool false, .bool false, .bool true] by rw [hR3]; rfl)
    have HD3 := Shut.mk (show uA D3 = .agg #[.int .u32 0, .int .u32 0, .int .u32 0, .int .u32 (c : Nat)] by rw [hD3]; rfl)
    have HDB3 := Shut.mk (show ∀ i, i < 4 → D3 i < 4294967296 from fun i _ => by
      have h1 := HC32.out
      rw [hD3]
      show (if i = 3 then c else 0) < 4294967296
      split <;> omega)
    have HAL := Shut.mk (show (contE E1 R3 D3).2 = some (3, v2) from by
      have h1 := (alone_cont (e := E1) (a := 3) (i := 0) ⟨by show max (E1.wd 3) (leastE 3) = leastE 3; rw [HK3.out.2]; decide, HK3.out.1⟩ (by decide) (r := R3) (fun b hb => by rw [hR3]; simp) D3).1
      rw [h1, HV2.out, HV.out, hD3]
      rfl)
    have HKO := Shut.mk (show (contE E1 R3 D3).1.ct 0 = E1.ct 0 from (cont_keep (e := E1) (r := R3) (d := D3) (a := 0) (by rw [hR3]; rfl)).1)
    clear hR3 hD3
    go_wp2_with (fail)
    have HCC := Shut.mk (contend_l HL3.out R3 D3 HDB3.out)
    rw [HR3.out, HD3.out, HAL.out, ans_some] at HCC
    refine HCC.out.mono ?_
    rintro x' wf ⟨rfl, hL, hO⟩
    obtain ⟨E2, hE2⟩ : ∃ E2, E2 = (contE E1 R3 D3).1 := ⟨_, rfl⟩
    rw [← hE2] at hL HKO
    have HL4 := Shut.mk hL
    have HSL4 := Shut.mk (hO.at_ HSL.out HSG.out)
    have HS4 := Shut.mk (show 0 < E2.ct 0 ∧ E2.ct 0 = s + 1 ∧ ((E2.ct 0 - 1 : Nat) : Int) = (s : Int) by rw [HKO.out]; exact HS.out)
    have HPOS4 := Shut.mk (show decide (0 < E2.ct 0) = true from by have := HS4.out.1; simpa using this)
    clear hL hO hE2 HL3 HCC HSL HR3 HD3 HDB3 HAL HKO HS HPOS
    go_wp2_with (fail)
    refine (show Calls Tryd.prog 15 #[.pointer (some ⟨g, 0, none⟩), .int .i64 0] wf _ from left_in g E2 0 wf HL4.out.ed (by decide)).mono ?_
    rintro x' wz ⟨⟨k3, rfl, hk, -⟩, rfl⟩
    obtain rfl : k3 = (s : Int) := (hk HS4.out.1).trans HS4.out.2.2
    rw [HPOS4.out]
    clear hk
    -- the other one alone
    obtain ⟨R4, hR4⟩ : ∃ R : Nat → Bool, R = fun i => decide (i = 0) := ⟨_, rfl⟩
    obtain ⟨D4, hD4⟩ : ∃ D : Nat → Nat, D = fun _ => c := ⟨_, rfl⟩
    have HR4 := Shut.mk (show bA R4 = .agg #[.bool true, .bool false, .bool false, .bool false] by rw [hR4]; rfl)
    have HD4 := Shut.mk (show uA D4 = .agg #[.int .u32 (c : Nat), .int .u32 (c : Nat), .int .u32 (c : Nat), .int .u32 (c : Nat)] by rw [hD4]; rfl)
    have HDB4 := Shut.mk (show ∀ i, i < 4 → D4 i < 4294967296 from fun i _ => by rw [hD4]; exact HC32.out)
    obtain ⟨o, ho⟩ : ∃ o, o = 7 + s := ⟨_, rfl⟩
    have HAL := Shut.mk (show (contE E2 R4 D4).2 = some (0, o) from by
      rw [alone_has (e := E2) (r := R4) (d := D4) (a := 0) (c := s) (by decide) (fun b hb => by rw [hR4]; simp) HS4.out.2.1, ho]
      rfl)
    have z5 : IntKind.i64.wrap (7 + (s : Int)) = (o : Int) := by have := HSB.out; rw [IntWalk.i64_in _ ⟨by omega, by omega⟩]; omega
    have hcs : wf.cell? ⟨gs, 0, none⟩ = some (.int .i64 7) := by have := block_range HSL4.out 0 _ rfl; simpa using this
    clear hR4 hD4 ho
    go_wp2_with (fail)
    have HCC := Shut.mk (contend_l HL4.out R4 D4 HDB4.out)
    rw [HR4.out, HD4.out, HAL.out, ans_some] at HCC
    refine HCC.out.mono ?_
    rintro x' wg ⟨rfl, hL, hO⟩
    have HL5 := Shut.mk hL
    have hcs2 : wg.cell? ⟨gs, 0, none⟩ = some (.int .i64 7) := hO.cell hcs HSG.out
    clear hL hO HCC hcs
    go_wp2_with (fail)
    go_ret
    exact ⟨rfl, HL5.out.bel⟩
  · obtain ⟨hA, hct⟩ := HTWO.out.2.1 h
    rw [hA, ans_some]
    obtain ⟨m, hm⟩ : ∃ m : Int, m = max ((x7 : Nat) - (3 : Int)) 0 := ⟨_, rfl⟩
    obtain ⟨s, hs⟩ : ∃ s : Nat, s = y - (x7 - 3) := ⟨_, rfl⟩
    have hxx := HXY.out
    have hx7' := HX7.out
    have hy3x := HY3.out
    have HS := Shut.mk (show 0 < E1.ct 1 ∧ E1.ct 1 = s + 1 ∧ ((E1.ct 1 - 1 : Nat) : Int) = (s : Int) by rw [hct]; omega)
    have HPOS := Shut.mk (show decide (0 < E1.ct 1) = true from by have := HS.out.1; simpa using this)
    have z1 : IntKind.i64.wrap ((x7 : Nat) - (3 : Int)) = (x7 : Nat) - (3 : Int) := IntWalk.i64_in _ ⟨by omega, by omega⟩
    have z2 : max ((x7 : Nat) - (3 : Int)) 0 = m := hm.symm
    have z3 : IntKind.i64.wrap ((y : Nat) - m) = (s : Int) := by rw [IntWalk.i64_in _ ⟨by omega, by omega⟩]; omega
    have z4 : max (s : Int) 0 = (s : Int) := by omega
    have HSB := Shut.mk (show s ≤ 100 by omega)
    have hlt1 : (¬ (y3' : Int) < (x7 : Int)) := by omega
    have hlt2 : ((x7 : Int) == (y3' : Int)) = false := by simp; omega
    have HQ := Shut.mk ((Below.refl wd.heap.size wd).alloc (Nat.le_refl _) (Obj.cells #[.int .i64 7, .int .i64 3] 3 (0, 0)))
    have HSL := Shut.mk (MapKept.heap_alloc wd (Obj.cells #[.int .i64 7, .int .i64 3] 3 (0, 0))).1
    have HSG := Shut.mk (show wd.heap.size ≠ g from fun e => by have := lt_blk HL2.out.ed; omega)
    clear hA hct hm hs hxx hx7' hy3x h
    go_wp2_with (fail)
    have HL3 := Shut.mk (HL2.out.quiet HQ.out)
    generalize World.alloc wd _ = we at *
    obtain ⟨gs, hgs⟩ : ∃ gs, gs = wd.heap.size := ⟨_, rfl⟩
    rw [← hgs] at HSL HSG ⊢
    clear hgs HQ HL2
    refine (show Calls Tryd.prog 15 #[.pointer (some ⟨g, 0, none⟩), .int .i64 1] we _ from left_in g E1 1 we HL3.out.ed (by decide)).mono ?_
    rintro x' wz ⟨⟨k2, rfl, hk, -⟩, rfl⟩
    obtain rfl : k2 = (s : Int) := (hk HS.out.1).trans HS.out.2.2
    rw [HPOS.out]
    clear hk
    -- voice goes
    obtain ⟨R3, hR3⟩ : ∃ R : Nat → Bool, R = fun i => decide (i = 3) := ⟨_, rfl⟩
    obtain ⟨D3, hD3⟩ : ∃ D : Nat → Nat, D = fun i => if i = 3 then c else 0 := ⟨_, rfl⟩
    have HR3 := Shut.mk (show bA R3 = .agg #[.bool false, .bool false, .bool false, .bool true] by rw [hR3]; rfl)
    have HD3 := Shut.mk (show uA D3 = .agg #[.int .u32 0, .int .u32 0, .int .u32 0, .int .u32 (c : Nat)] by rw [hD3]; rfl)
    have HDB3 := Shut.mk (show ∀ i, i < 4 → D3 i < 4294967296 from fun i _ => by
      have h1 := HC32.out
      rw [hD3]
      show (if i = 3 then c else 0) < 4294967296
      split <;> omega)
    have HAL := Shut.mk (show (contE E1 R3 D3).2 = some (3, v2) from by
      have h1 := (alone_cont (e := E1) (a := 3) (i := 0) ⟨by show max (E1.wd 3) (leastE 3) = leastE 3; rw [HK3.out.2]; decide, HK3.out.1⟩ (by decide) (r := R3) (fun b hb => by rw [hR3]; simp) D3).1
      rw [h1, HV2.out, HV.out, hD3]
      rfl)
    have HKO := Shut.mk (show (contE E1 R3 D3).1.ct 1 = E1.ct 1 from (cont_keep (e := E1) (r := R3) (d := D3) (a := 1) (by rw [hR3]; rfl)).1)
    clear hR3 hD3
    go_wp2_with (fail)
    have HCC := Shut.mk (contend_l HL3.out R3 D3 HDB3.out)
    rw [HR3.out, HD3.out, HAL.out, ans_some] at HCC
    refine HCC.out.mono ?_
    rintro x' wf ⟨rfl, hL, hO⟩
    obtain ⟨E2, hE2⟩ : ∃ E2, E2 = (contE E1 R3 D3).1 := ⟨_, rfl⟩
    rw [← hE2] at hL HKO
    have HL4 := Shut.mk hL
    have HSL4 := Shut.mk (hO.at_ HSL.out HSG.out)
    have HS4 := Shut.mk (show 0 < E2.ct 1 ∧ E2.ct 1 = s + 1 ∧ ((E2.ct 1 - 1 : Nat) : Int) = (s : Int) by rw [HKO.out]; exact HS.out)
    have HPOS4 := Shut.mk (show decide (0 < E2.ct 1) = true from by have := HS4.out.1; simpa using this)
    clear hL hO hE2 HL3 HCC HSL HR3 HD3 HDB3 HAL HKO HS HPOS
    go_wp2_with (fail)
    refine (show Calls Tryd.prog 15 #[.pointer (some ⟨g, 0, none⟩), .int .i64 1] wf _ from left_in g E2 1 wf HL4.out.ed (by decide)).mono ?_
    rintro x' wz ⟨⟨k3, rfl, hk, -⟩, rfl⟩
    obtain rfl : k3 = (s : Int) := (hk HS4.out.1).trans HS4.out.2.2
    rw [HPOS4.out]
    clear hk
    -- the other one alone
    obtain ⟨R4, hR4⟩ : ∃ R : Nat → Bool, R = fun i => decide (i = 1) := ⟨_, rfl⟩
    obtain ⟨D4, hD4⟩ : ∃ D : Nat → Nat, D = fun _ => c := ⟨_, rfl⟩
    have HR4 := Shut.mk (show bA R4 = .agg #[.bool false, .bool true, .bool false, .bool false] by rw [hR4]; rfl)
    have HD4 := Shut.mk (show uA D4 = .agg #[.int .u32 (c : Nat), .int .u32 (c : Nat), .int .u32 (c : Nat), .int .u32 (c : Nat)] by rw [hD4]; rfl)
    have HDB4 := Shut.mk (show ∀ i, i < 4 → D4 i < 4294967296 from fun i _ => by rw [hD4]; exact HC32.out)
    obtain ⟨o, ho⟩ : ∃ o, o = 3 + s := ⟨_, rfl⟩
    have HAL := Shut.mk (show (contE E2 R4 D4).2 = some (1, o) from by
      rw [alone_has (e := E2) (r := R4) (d := D4) (a := 1) (c := s) (by decide) (fun b hb => by rw [hR4]; simp) HS4.out.2.1, ho]
      rfl)
    have z5 : IntKind.i64.wrap (3 + (s : Int)) = (o : Int) := by have := HSB.out; rw [IntWalk.i64_in _ ⟨by omega, by omega⟩]; omega
    have hcs : wf.cell? ⟨gs, 1, none⟩ = some (.int .i64 3) := by have := block_range HSL4.out 1 _ rfl; simpa using this
    clear hR4 hD4 ho
    go_wp2_with (fail)
    have HCC := Shut.mk (contend_l HL4.out R4 D4 HDB4.out)
    rw [HR4.out, HD4.out, HAL.out, ans_some] at HCC
    refine HCC.out.mono ?_
    rintro x' wg ⟨rfl, hL, hO⟩
    have HL5 := Shut.mk hL
    have hcs2 : wg.cell? ⟨gs, 1, none⟩ = some (.int .i64 3) := hO.cell hcs HSG.out
    clear hL hO HCC hcs
    go_wp2_with (fail)
    go_ret
    exact ⟨rfl, HL5.out.bel⟩
  · have hA := HTWO.out.2.2 h
    rw [hA, ans_some]
    have hq : ((x7 : Int) == (y3' : Int)) = true := by simp; omega
    clear hA h
    go_wp2_with (fail)
    go_ret
    exact ⟨rfl, HL2.out.bel⟩

end Go.Proofs.YtndkmgcmegcieaaDoor.edcaNone
