/-
  The walk of muezzin/muezzinlaw6.TimOne: the Go text returns true.
-/
import Derived.Test.YtocghdjadojimaaDoorTimY
import Derived.Test.YtocghdjadojimaaDoorOpenT
import Derived.WalkKit
import Derived.ProofKit
import Derived.Below
namespace Go.Proofs.YtocghdjadojimaaDoor.timOne
open Go.ChangeShapes Go.WideShapes Go.ChangeAt Go.RowKit Go.Joins
set_option linter.unusedVariables false
set_option linter.unusedSimpArgs false

theorem pow_ok : ∀ r : Nat, r < 8 → IntKind.u8.wrap ((2 : Int) ^ r) = 2 ^ r ∧ (2 : Int) ^ r % 256 = 2 ^ r ∧ (0 : Int) ≤ 2 ^ r ∧ (2 : Int) ^ r ≤ 255 := by decide

/-! ### THE WALK -/
set_option maxRecDepth 100000 in
set_option maxHeartbeats 8000000 in
theorem walk (n0 : Int) (n1 : Int) (w : World) (E : Nat → Addr) (hS : Sent w E [101, 102, 103, 105]) (w0 : (Lit.int .i64 n0).wf = true) (w1 : (Lit.int .i64 n1).wf = true) :
    Calls Tryd.prog 6 #[.int .i64 n0, .int .i64 n1] w fun e w' => e = .returned (.bool true) ∧ Below w.heap.size w w' := by
  have HS := Lib.hid (show Sent w E S4 from hS)
  have W0 := Lib.hid w0
  have W1 := Lib.hid w1
  clear w0 w1 hS
  go_enter Tryd.func6, Tryd.ntmps6
  go_wp2_with (fail)
  refine (first_any w).mono ?_
  rintro e w1 ⟨rfl, hB⟩
  have HB := Lib.hid hB
  clear hB
  go_wp2_with (fail)
  refine (number_any _ _ _ W0.out (by omega) (by omega)).mono ?_
  rintro e w' ⟨rfl, rfl⟩
  have a0 := nmod_lo n0 2007 (by omega)
  have a1 := nmod_hi n0 2007 (by omega)
  generalize nmod n0 2007 = x at *
  go_wp2_with (fail)
  refine (number_any _ _ _ W1.out (by omega) (by omega)).mono ?_
  rintro e w' ⟨rfl, rfl⟩
  have b0 := nmod_lo n1 2007 (by omega)
  have b1 := nmod_hi n1 2007 (by omega)
  generalize nmod n1 2007 = y at *
  obtain ⟨a, ha⟩ : ∃ a, a = x + 1 := ⟨_, rfl⟩
  rw [← ha]
  have ha1 : 1 ≤ a ∧ a ≤ 2007 := by omega
  clear ha a0 a1 W0 W1
  obtain ⟨b, hb⟩ : ∃ b, b = y + 1 := ⟨_, rfl⟩
  have hb1 : 1 ≤ b ∧ b ≤ 2007 := by omega
  have hyb : y + 1 = b := hb.symm
  clear hb b0 b1
  obtain ⟨D, hD⟩ : ∃ D : Nat, a / 8 % 2 = (D : Int) := ⟨(a / 8 % 2).toNat, by omega⟩
  obtain ⟨r, hr⟩ : ∃ r : Nat, a % 8 = (r : Int) := ⟨(a % 8).toNat, by omega⟩
  have HAL := Lib.hid ((Below.refl w1.heap.size w1).alloc (Nat.le_refl _) (.cells (([a] : List Int).map (Value.int .i64)).toArray 3))
  have HBA := Lib.hid (HB.out.alloc HB.out.size (.cells (([a] : List Int).map (Value.int .i64)).toArray 3))
  have HC := Lib.hid (bytes_yes ⟨1, 2, false, [a]⟩ (some ⟨w1.heap.size, 0, none⟩) 1 1 (w1.alloc (.cells (([a] : List Int).map (Value.int .i64)).toArray 3)) (lit_ints w1 [a] 3 (by intro v hv; simp at hv; omega) (by unfold maxLen; simp)) (one_ok ha1))
  have HV4 := Lib.hid (one_fst a)
  have HVL := Lib.hid (one_last ha1 hD hr)
  dsimp only at HC
  rw [one_len ha1 hD] at HC
  simp only [List.map_cons, List.map_nil] at HC HBA HAL
  go_wp2_with (fail)
  generalize World.alloc w1 _ = w2 at *
  refine HC.out.mono ?_
  rintro e w3 ⟨g, cap, rfl, hO, hB⟩
  have c4 := hO.cell 4 (by omega)
  have cl := hO.cell (D + 5) (by omega)
  rw [HV4.out] at c4
  rw [HVL.out] at cl
  have T0 := Lib.hid (HBA.out.trans (hB.mono HBA.out.size))
  clear HB HBA HC HAL hB hO HV4 HVL
  have HB := T0
  clear T0
  have hr8 : r < 8 := by omega
  have hpw : IntKind.u8.wrap ((2 : Int) ^ r) = 2 ^ r ∧ (2 : Int) ^ r % 256 = 2 ^ r ∧ (0 : Int) ≤ 2 ^ r ∧ (2 : Int) ^ r ≤ 255 := pow_ok r hr8
  obtain ⟨pw1, pw2, pw3, pw4⟩ := hpw
  have q1 : IntKind.i64.wrap (a.tdiv 8) = a / 8 := by rw [Int.tdiv_eq_ediv_of_nonneg (by omega)]; exact IntWalk.i64_in _ ⟨by omega, by omega⟩
  have q2 : IntKind.i64.wrap (a.tdiv 16) = a / 16 := by rw [Int.tdiv_eq_ediv_of_nonneg (by omega)]; exact IntWalk.i64_in _ ⟨by omega, by omega⟩
  have q3 : a.tmod 8 = (r : Int) := by rw [Int.tmod_eq_emod_of_nonneg (by omega), hr]
  have f16 : 0 ≤ a / 16 * 2 ∧ a / 16 * 2 ≤ 255 := by omega
  obtain ⟨f16a, f16b⟩ := f16
  have ix0 : (4 : Int) < (D : Int) + 1 + 5 := by omega
  have ix1 : (0 : Int) ≤ (D : Int) + 1 + 5 - 1 := by omega
  have ix2 : (D : Int) + 1 + 5 - 1 < (D : Int) + 1 + 5 := by omega
  have ix3 : ((D : Int) + 1 + 5 - 1).toNat = D + 5 := by omega
  have hne : ((D : Int) + 1 + 5 != 6 + (D : Int)) = false := by simp; omega
  obtain ⟨p, hp⟩ : ∃ p : Int, p = 2 ^ r := ⟨_, rfl⟩
  rw [← hp] at pw1 pw2 pw3 pw4 cl
  by_cases hab : a = b
  · subst hab
    have hee : (a == a) = true := by simp
    go_wp2
    go_ret
    exact ⟨rfl, HB.out⟩
  have hee : (a == b) = false := by simpa using hab
  rcases (by omega : a < b ∨ b < a) with hlt | hlt
  · go_wp2_with (fail)
    have HAL := Lib.hid ((Below.refl w3.heap.size w3).alloc (Nat.le_refl _) (.cells (([a, b] : List Int).map (Value.int .i64)).toArray 3))
    have HBA := Lib.hid (HB.out.alloc HB.out.size (.cells (([a, b] : List Int).map (Value.int .i64)).toArray 3))
    have HC := Lib.hid (bytes_yes ⟨0, 2, false, [a, b]⟩ (some ⟨w3.heap.size, 0, none⟩) 2 2 (w3.alloc (.cells (([a, b] : List Int).map (Value.int .i64)).toArray 3)) (lit_ints w3 [a, b] 3 (by intro v hv; simp at hv; omega) (by unfold maxLen; simp)) (two_ok (by omega)))
    have HL2 := Lib.hid (two_len (a := a) (b := b) (by omega))
    have HLn := Lib.hid (encT_len ⟨0, 2, false, [a, b]⟩)
    have HWF := Lib.hid (all_wf (encT_len ⟨0, 2, false, [a, b]⟩) (encT_wf ⟨0, 2, false, [a, b]⟩ (two_ok (by omega))))
    have HH := Lib.hid (fun v => hasT_enc ⟨0, 2, false, [a, b]⟩ (two_ok (by omega)) v)
    dsimp only at HC HH HLn HWF
    generalize lenB [a, b] = m at *
    have hm := HL2.out
    simp only [List.map_cons, List.map_nil] at HC HBA HAL
    have m1 : min a b = a := by omega
    have m2 : max a b = b := by omega
    have m3 : (a ≤ b) = True := by simp; omega
    generalize World.alloc w3 _ = w4 at *
    refine HC.out.mono ?_
    rintro e w5 ⟨g2, cap2, rfl, hO, hB⟩
    have HY := Lib.hid (hO.row8 HWF.out)
    have hcap2 := hO.cap_le
    generalize encT _ = L at *
    have T0 := Lib.hid (HBA.out.trans (hB.mono HBA.out.size))
    clear HB HBA HC HAL hB hO HWF HLn HL2
    have HB := T0
    clear T0
    have q4 : IntKind.i64.wrap (b.tdiv 8) = b / 8 := by rw [Int.tdiv_eq_ediv_of_nonneg (by omega)]; exact IntWalk.i64_in _ ⟨by omega, by omega⟩
    have q5 : IntKind.i64.wrap (a.tdiv 16) = a / 16 := by rw [Int.tdiv_eq_ediv_of_nonneg (by omega)]; exact IntWalk.i64_in _ ⟨by omega, by omega⟩
    have heq : ((m : Int) + 5 == 5 + b / 8 - a / 16 * 2 + 1) = true := by simp; omega
    have HM := Lib.hid hm
    clear hm
    have HA2 := Lib.hid (HH.out a)
    have HB2 := Lib.hid (HH.out b)
    rw [show decide (a ∈ [a, b]) = true by simp] at HA2
    rw [show decide (b ∈ [a, b]) = true by simp] at HB2
    clear HH
    go_wp2_with (fail)
    refine (has_any (some ⟨g2, 0, none⟩) (m + 5) cap2 L a E w5 HY.out (HS.out.below HB.out) hcap2).mono ?_
    rintro e w6 ⟨rfl, hB⟩
    rw [HA2.out]
    have T0 := Lib.hid (HB.out.trans (hB.mono HB.out.size))
    have T1 := Lib.hid (HY.out.below hB)
    clear hB HB HY
    have HB := T0
    have HY := T1
    clear T0 T1
    go_wp2_with (fail)
    refine (has_any (some ⟨g2, 0, none⟩) (m + 5) cap2 L b E w6 HY.out (HS.out.below HB.out) hcap2).mono ?_
    rintro e w7 ⟨rfl, hB⟩
    rw [HB2.out]
    have T0 := Lib.hid (HB.out.trans (hB.mono HB.out.size))
    have T1 := Lib.hid (HY.out.below hB)
    clear hB HB HY
    have HB := T0
    have HY := T1
    clear T0 T1
    go_wp2
    go_ret
    exact ⟨rfl, HB.out⟩
  · go_wp2_with (fail)
    have HAL := Lib.hid ((Below.refl w3.heap.size w3).alloc (Nat.le_refl _) (.cells (([b, a] : List Int).map (Value.int .i64)).toArray 3))
    have HBA := Lib.hid (HB.out.alloc HB.out.size (.cells (([b, a] : List Int).map (Value.int .i64)).toArray 3))
    have HC := Lib.hid (bytes_yes ⟨0, 2, false, [b, a]⟩ (some ⟨w3.heap.size, 0, none⟩) 2 2 (w3.alloc (.cells (([b, a] : List Int).map (Value.int .i64)).toArray 3)) (lit_ints w3 [b, a] 3 (by intro v hv; simp at hv; omega) (by unfold maxLen; simp)) (two_ok (by omega)))
    have HL2 := Lib.hid (two_len (a := b) (b := a) (by omega))
    have HLn := Lib.hid (encT_len ⟨0, 2, false, [b, a]⟩)
    have HWF := Lib.hid (all_wf (encT_len ⟨0, 2, false, [b, a]⟩) (encT_wf ⟨0, 2, false, [b, a]⟩ (two_ok (by omega))))
    have HH := Lib.hid (fun v => hasT_enc ⟨0, 2, false, [b, a]⟩ (two_ok (by omega)) v)
    dsimp only at HC HH HLn HWF
    generalize lenB [b, a] = m at *
    have hm := HL2.out
    simp only [List.map_cons, List.map_nil] at HC HBA HAL
    have m1 : min a b = b := by omega
    have m2 : max a b = a := by omega
    have m3 : (a ≤ b) = False := by simp; omega
    generalize World.alloc w3 _ = w4 at *
    refine HC.out.mono ?_
    rintro e w5 ⟨g2, cap2, rfl, hO, hB⟩
    have HY := Lib.hid (hO.row8 HWF.out)
    have hcap2 := hO.cap_le
    generalize encT _ = L at *
    have T0 := Lib.hid (HBA.out.trans (hB.mono HBA.out.size))
    clear HB HBA HC HAL hB hO HWF HLn HL2
    have HB := T0
    clear T0
    have q4 : IntKind.i64.wrap (a.tdiv 8) = a / 8 := by rw [Int.tdiv_eq_ediv_of_nonneg (by omega)]; exact IntWalk.i64_in _ ⟨by omega, by omega⟩
    have q5 : IntKind.i64.wrap (b.tdiv 16) = b / 16 := by rw [Int.tdiv_eq_ediv_of_nonneg (by omega)]; exact IntWalk.i64_in _ ⟨by omega, by omega⟩
    have heq : ((m : Int) + 5 == 5 + a / 8 - b / 16 * 2 + 1) = true := by simp; omega
    have HM := Lib.hid hm
    clear hm
    have HA2 := Lib.hid (HH.out a)
    have HB2 := Lib.hid (HH.out b)
    rw [show decide (a ∈ [b, a]) = true by simp] at HA2
    rw [show decide (b ∈ [b, a]) = true by simp] at HB2
    clear HH
    go_wp2_with (fail)
    refine (has_any (some ⟨g2, 0, none⟩) (m + 5) cap2 L a E w5 HY.out (HS.out.below HB.out) hcap2).mono ?_
    rintro e w6 ⟨rfl, hB⟩
    rw [HA2.out]
    have T0 := Lib.hid (HB.out.trans (hB.mono HB.out.size))
    have T1 := Lib.hid (HY.out.below hB)
    clear hB HB HY
    have HB := T0
    have HY := T1
    clear T0 T1
    go_wp2_with (fail)
    refine (has_any (some ⟨g2, 0, none⟩) (m + 5) cap2 L b E w6 HY.out (HS.out.below HB.out) hcap2).mono ?_
    rintro e w7 ⟨rfl, hB⟩
    rw [HB2.out]
    have T0 := Lib.hid (HB.out.trans (hB.mono HB.out.size))
    have T1 := Lib.hid (HY.out.below hB)
    clear hB HB HY
    have HB := T0
    have HY := T1
    clear T0 T1
    go_wp2
    go_ret
    exact ⟨rfl, HB.out⟩
end Go.Proofs.YtocghdjadojimaaDoor.timOne
