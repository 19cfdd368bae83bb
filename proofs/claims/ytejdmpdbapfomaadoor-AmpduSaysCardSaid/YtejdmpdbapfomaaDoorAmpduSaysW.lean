/-
  The walk of muezzin/muezzinlaw7.AmpduSays: the Go text returns true.
-/
import Derived.Test.YtejdmpdbapfomaaDoorAmpJ
import Derived.Test.YtejdmpdbapfomaaDoorOpenP
import Derived.WalkKit
import Derived.ProofKit
import Derived.Below
namespace Go.Proofs.YtejdmpdbapfomaaDoor.ampduSays
open Go.ChangeShapes Go.WideShapes Go.ChangeAt Go.RowKit Go.Joins Go.Deep
set_option linter.unusedVariables false
set_option linter.unusedSimpArgs false

set_option maxRecDepth 100000 in
set_option maxHeartbeats 8000000 in
theorem walk (a0 : Option Addr) (len0 cap0 : Nat) (ps0 : List (List Int)) (a1 : Option Addr) (len1 cap1 : Nat) (z1 : List Int) (w : World) (E : Nat → Addr) (hS : Sent w E [101, 102, 103, 104, 105, 106, 107, 108, 109, 110, 111, 112, 113, 114]) (w0 : RowP w a0 len0 ps0 ∧ len0 ≤ cap0 ∧ ∀ p ∈ ps0, p.length ≤ 140737488355328) (w1 : IsRow .u8 w a1 len1 cap1 z1) :
    Calls Tryd.prog 3 #[.slice a0 len0 cap0, .slice a1 len1 cap1] w fun e w' => e = .returned (.bool true) ∧ Below w.heap.size w w' := by
  have HS := Lib.hid (show Sent w E S14 from hS)
  have HR := Lib.hid w0.1
  have HSZ := Lib.hid w0.2.2
  have HLN := Lib.hid w0.1.len
  have HX := Lib.hid (RowB.of_row w1)
  have hxc : len1 ≤ cap1 := (IsRow.len_cap w1).1
  generalize z1.take len1 = xs at *
  clear w0 w1 hS
  go_enter Tryd.func3, Tryd.ntmps3
  go_wp2_with (fail)
  refine (first_any E w HS.out.five).mono ?_
  rintro e w1 ⟨rfl, hB⟩
  have HB := Lib.hid hB
  clear hB
  go_wp2_with (fail)
  refine (light_any a0 len0 cap0 ps0 w1 (HR.out.below HB.out)).mono ?_
  rintro e w' ⟨⟨v, rfl, hv⟩, rfl⟩
  cases v
  · clear hv
    go_wp2
    go_ret
    exact ⟨rfl, HB.out⟩
  obtain ⟨h70, htot⟩ := hv rfl
  have HTOT := Lib.hid (htot HSZ.out)
  clear hv htot
  by_cases hbig : 4000 < len1
  · have d1 : decide ((4000 : Int) < (len1 : Int)) = true := by simp; omega
    have d2 : decide (4000 < len1) = true := by simp; omega
    go_wp2
    go_ret
    exact ⟨rfl, HB.out⟩
  have d1 : decide ((4000 : Int) < (len1 : Int)) = false := by simp; omega
  have d2 : decide (4000 < len1) = false := by simp; omega
  have HLI := Lib.hid (show ∀ x ∈ lensI ps0, x ≤ 1000000 from fun x hx => by
    unfold lensI at hx
    simp only [List.mem_map] at hx
    obtain ⟨p, hp, rfl⟩ := hx
    have h1 := total_mem hp
    have h2 := HTOT.out
    omega)
  go_wp2_with (fail)
  refine (pack_row a0 len0 cap0 ps0 E w1 (HR.out.below HB.out) (by omega) (HS.out.below HB.out).five).mono ?_
  rintro e w2 ⟨A1, m1, c1, rfl, hr, -, hB⟩
  have HP1 := Lib.hid hr
  clear hr
  have T0 := Lib.hid (HB.out.trans (hB.mono HB.out.size))
  clear HB
  have HB := T0
  clear T0
  clear hB
  go_wp2_with (fail)
  refine (refpack_any a0 len0 cap0 ps0 w2 (HR.out.below HB.out) (by omega)).mono ?_
  rintro e w3 ⟨A2, m2, c2, rfl, hr, -, hB⟩
  have HP2 := Lib.hid hr
  clear hr
  have T0 := Lib.hid (HB.out.trans (hB.mono HB.out.size))
  have T1 := Lib.hid (HP1.out.below hB)
  clear HB HP1
  have HB := T0
  have HP1 := T1
  clear T0 T1
  clear hB
  go_wp2_with (fail)
  refine (parts_any a1 len1 cap1 xs E w3 (HX.out.below HB.out) hxc (by omega) (HS.out.below HB.out).five).mono ?_
  rintro e w4 ⟨A3, m3, c3, rfl, hr, -, hB⟩
  have HP3 := Lib.hid hr
  clear hr
  have T0 := Lib.hid (HB.out.trans (hB.mono HB.out.size))
  have T1 := Lib.hid (HP1.out.below hB)
  have T2 := Lib.hid (HP2.out.below hB)
  clear HB HP1 HP2
  have HB := T0
  have HP1 := T1
  have HP2 := T2
  clear T0 T1 T2
  clear hB
  go_wp2_with (fail)
  refine (refparts_any a1 len1 cap1 xs w4 (HX.out.below HB.out) hxc (by omega)).mono ?_
  rintro e w5 ⟨A4, m4, c4, rfl, hr, -, hB⟩
  have HP4 := Lib.hid hr
  clear hr
  have T0 := Lib.hid (HB.out.trans (hB.mono HB.out.size))
  have T1 := Lib.hid (HP1.out.below hB)
  have T2 := Lib.hid (HP2.out.below hB)
  have T3 := Lib.hid (HP3.out.below hB)
  clear HB HP1 HP2 HP3
  have HB := T0
  have HP1 := T1
  have HP2 := T2
  have HP3 := T3
  clear T0 T1 T2 T3
  clear hB
  go_wp2_with (fail)
  refine (same_any A1 A2 m1 c1 m2 c2 _ _ w5 HP1.out HP2.out).mono ?_
  rintro e w6 ⟨rfl, m, rfl⟩
  rw [sameB_refl]
  have hB := below_drewN (Below.refl w5.heap.size w5) m
  clear HP1 HP2
  have T0 := Lib.hid (HB.out.trans (hB.mono HB.out.size))
  have T1 := Lib.hid (HP3.out.below hB)
  have T2 := Lib.hid (HP4.out.below hB)
  clear HB HP3 HP4
  have HB := T0
  have HP3 := T1
  have HP4 := T2
  clear T0 T1 T2
  clear hB
  generalize w5.drewN m = w6 at *
  go_wp2_with (fail)
  refine (is_any E (codeP ps0) ((codeP ps0 : Nat) : Int) w6 (HS.out.below HB.out) (codeP_S14 ps0)).mono ?_
  rintro e w7 ⟨rfl, hB⟩
  rw [show (((codeP ps0 : Nat) : Int) == ((codeP ps0 : Nat) : Int)) = true by simp]
  have T0 := Lib.hid (HB.out.trans (hB.mono HB.out.size))
  have T1 := Lib.hid (HP3.out.below hB)
  have T2 := Lib.hid (HP4.out.below hB)
  clear HB HP3 HP4
  have HB := T0
  have HP3 := T1
  have HP4 := T2
  clear T0 T1 T2
  clear hB
  go_wp2_with (fail)
  refine (sameParts_any A3 A4 m3 c3 m4 c4 _ _ w7 HP3.out HP4.out).mono ?_
  rintro e w8 ⟨rfl, m, rfl⟩
  rw [sameP_refl]
  have hB := below_drewN (Below.refl w7.heap.size w7) m
  clear HP3 HP4
  have T0 := Lib.hid (HB.out.trans (hB.mono HB.out.size))
  clear HB
  have HB := T0
  clear T0
  clear hB
  generalize w7.drewN m = w8 at *
  go_wp2_with (fail)
  refine (is_any E (codeR xs) ((codeR xs : Nat) : Int) w8 (HS.out.below HB.out) (codeR_S14 xs)).mono ?_
  rintro e w9 ⟨rfl, hB⟩
  rw [show (((codeR xs : Nat) : Int) == ((codeR xs : Nat) : Int)) = true by simp]
  have T0 := Lib.hid (HB.out.trans (hB.mono HB.out.size))
  clear HB
  have HB := T0
  clear T0
  clear hB
  go_wp2_with (fail)
  refine (unpack_any a1 len1 cap1 xs E w9 (HX.out.below HB.out) hxc (by omega) (HS.out.below HB.out).five).mono ?_
  rintro e w10 ⟨A5, m5, c5, rfl, hr, -, hB⟩
  have HP5 := Lib.hid hr
  clear hr
  have T0 := Lib.hid (HB.out.trans (hB.mono HB.out.size))
  clear HB
  have HB := T0
  clear T0
  clear hB
  go_wp2_with (fail)
  refine (refunpack_any a1 len1 cap1 xs w10 (HX.out.below HB.out) hxc (by omega)).mono ?_
  rintro e w11 ⟨A6, m6, c6, rfl, hr, -, hB⟩
  have HP6 := Lib.hid hr
  clear hr
  have T0 := Lib.hid (HB.out.trans (hB.mono HB.out.size))
  have T1 := Lib.hid (HP5.out.below hB)
  clear HB HP5
  have HB := T0
  have HP5 := T1
  clear T0 T1
  clear hB
  go_wp2_with (fail)
  refine (sameParts_any A5 A6 m5 c5 m6 c6 _ _ w11 HP5.out HP6.out).mono ?_
  rintro e w12 ⟨rfl, m, rfl⟩
  rw [sameP_refl]
  have hB := below_drewN (Below.refl w11.heap.size w11) m
  clear HP5 HP6
  have T0 := Lib.hid (HB.out.trans (hB.mono HB.out.size))
  clear HB
  have HB := T0
  clear T0
  clear hB
  generalize w11.drewN m = w12 at *
  go_wp2_with (fail)
  refine (lawlens_any a0 len0 cap0 ps0 w12 (HR.out.below HB.out) (by omega)).mono ?_
  rintro e w13 ⟨B1, k1, rfl, hr, hB⟩
  have HP7 := Lib.hid hr
  clear hr
  have T0 := Lib.hid (HB.out.trans (hB.mono HB.out.size))
  clear HB
  have HB := T0
  clear T0
  clear hB
  go_wp2_with (fail)
  refine (len_any B1 len0 k1 (lensI ps0) w13 HP7.out HLI.out (by omega)).mono ?_
  rintro e w' ⟨rfl, rfl⟩
  go_wp2_with (fail)
  refine (lawlens_any a0 len0 cap0 ps0 w13 (HR.out.below HB.out) (by omega)).mono ?_
  rintro e w14 ⟨B2, k2, rfl, hr, hB⟩
  have HP8 := Lib.hid hr
  clear hr HP7
  have T0 := Lib.hid (HB.out.trans (hB.mono HB.out.size))
  clear HB
  have HB := T0
  clear T0
  clear hB
  go_wp2_with (fail)
  refine (agglen_any B2 len0 k2 (lensI ps0) w14 HP8.out HLI.out (by omega)).mono ?_
  rintro e w' ⟨rfl, rfl⟩
  have HEQ : (aggLen (lensI ps0) == aggLen (lensI ps0)) = true := by simp
  generalize aggLen (lensI ps0) = al at *
  go_wp2
  go_ret
  exact ⟨rfl, HB.out⟩
end Go.Proofs.YtejdmpdbapfomaaDoor.ampduSays
