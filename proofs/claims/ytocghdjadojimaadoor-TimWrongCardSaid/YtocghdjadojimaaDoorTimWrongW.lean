/-
  The walk of muezzin/muezzinlaw6.TimWrong: the Go text returns true.
-/
import Derived.Test.YtocghdjadojimaaDoorTimY
import Derived.Test.YtocghdjadojimaaDoorOpenT
import Derived.WalkKit
import Derived.ProofKit
import Derived.Below
namespace Go.Proofs.YtocghdjadojimaaDoor.timWrong
open Go.ChangeShapes Go.WideShapes Go.ChangeAt Go.RowKit Go.Joins
set_option linter.unusedVariables false
set_option linter.unusedSimpArgs false

theorem not_rise {c p : Int} {g : Bool} {l : List Int} (h : rises 0 l = false) : okT ⟨c, p, g, l⟩ = false := by
  unfold okT
  simp [h]

/-! ### THE WALK -/
set_option maxRecDepth 100000 in
set_option maxHeartbeats 8000000 in
theorem walk (n0 : Int) (n1 : Int) (w : World) (E : Nat → Addr) (hS : Sent w E [101, 102, 103, 104, 105, 106, 107, 108, 109, 110, 111, 112, 113, 114]) (w0 : (Lit.int .i64 n0).wf = true) (w1 : (Lit.int .i64 n1).wf = true) :
    Calls Tryd.prog 7 #[.int .i64 n0, .int .i64 n1] w fun e w' => e = .returned (.bool true) ∧ Below w.heap.size w w' := by
  have HS := Lib.hid (show Sent w E S14 from hS)
  have W0 := Lib.hid w0
  have W1 := Lib.hid w1
  clear w0 w1 hS
  go_enter Tryd.func7, Tryd.ntmps7
  go_wp2_with (fail)
  refine (first_any w).mono ?_
  rintro e w1 ⟨rfl, hB⟩
  have HB := Lib.hid hB
  clear hB
  go_wp2_with (fail)
  refine (number_any _ _ _ W1.out (by omega) (by omega)).mono ?_
  rintro e w' ⟨rfl, rfl⟩
  have a0 := nmod_lo n1 2000 (by omega)
  have a1 := nmod_hi n1 2000 (by omega)
  generalize nmod n1 2000 = x at *
  obtain ⟨a, ha⟩ : ∃ a, a = x + 2 := ⟨_, rfl⟩
  have hxa : x + 2 = a := ha.symm
  have ha1 : 2 ≤ a ∧ a ≤ 2001 := by omega
  obtain ⟨ha2, ha3⟩ := ha1
  clear ha a0 a1 W1
  have HB0 := HB
  have HB1 := Lib.hid (HB0.out.alloc HB0.out.size (.cells (([a, a] : List Int).map (Value.int .i64)).toArray 3))
  have HB2 := Lib.hid (HB1.out.alloc HB1.out.size (.cells (([a, a - 1] : List Int).map (Value.int .i64)).toArray 3))
  have HB3 := Lib.hid (HB2.out.alloc HB2.out.size (.cells (([0] : List Int).map (Value.int .i64)).toArray 3))
  have HB4 := Lib.hid (HB3.out.alloc HB3.out.size (.cells (([a, 2008] : List Int).map (Value.int .i64)).toArray 3))
  have HB5 := Lib.hid (HB4.out.alloc HB4.out.size (.cells (([-a] : List Int).map (Value.int .i64)).toArray 3))
  have R0 := lit_ints w1 [a, a] 3 (by intro v hv; simp at hv; omega) (by unfold maxLen; simp)
  have R1 := lit_ints (w1.alloc (.cells (([a, a] : List Int).map (Value.int .i64)).toArray 3)) [a, a - 1] 3 (by intro v hv; simp at hv; omega) (by unfold maxLen; simp)
  rw [show (w1.alloc (.cells (([a, a] : List Int).map (Value.int .i64)).toArray 3)).heap.size = w1.heap.size + 1 by simp] at R1
  have R2 := lit_ints ((w1.alloc (.cells (([a, a] : List Int).map (Value.int .i64)).toArray 3)).alloc (.cells (([a, a - 1] : List Int).map (Value.int .i64)).toArray 3)) [0] 3 (by intro v hv; simp at hv; omega) (by unfold maxLen; simp)
  rw [show ((w1.alloc (.cells (([a, a] : List Int).map (Value.int .i64)).toArray 3)).alloc (.cells (([a, a - 1] : List Int).map (Value.int .i64)).toArray 3)).heap.size = w1.heap.size + 1 + 1 by simp] at R2
  have R3 := lit_ints (((w1.alloc (.cells (([a, a] : List Int).map (Value.int .i64)).toArray 3)).alloc (.cells (([a, a - 1] : List Int).map (Value.int .i64)).toArray 3)).alloc (.cells (([0] : List Int).map (Value.int .i64)).toArray 3)) [a, 2008] 3 (by intro v hv; simp at hv; omega) (by unfold maxLen; simp)
  rw [show (((w1.alloc (.cells (([a, a] : List Int).map (Value.int .i64)).toArray 3)).alloc (.cells (([a, a - 1] : List Int).map (Value.int .i64)).toArray 3)).alloc (.cells (([0] : List Int).map (Value.int .i64)).toArray 3)).heap.size = w1.heap.size + 1 + 1 + 1 by simp] at R3
  have R4 := lit_ints ((((w1.alloc (.cells (([a, a] : List Int).map (Value.int .i64)).toArray 3)).alloc (.cells (([a, a - 1] : List Int).map (Value.int .i64)).toArray 3)).alloc (.cells (([0] : List Int).map (Value.int .i64)).toArray 3)).alloc (.cells (([a, 2008] : List Int).map (Value.int .i64)).toArray 3)) [-a] 3 (by intro v hv; simp at hv; omega) (by unfold maxLen; simp)
  rw [show ((((w1.alloc (.cells (([a, a] : List Int).map (Value.int .i64)).toArray 3)).alloc (.cells (([a, a - 1] : List Int).map (Value.int .i64)).toArray 3)).alloc (.cells (([0] : List Int).map (Value.int .i64)).toArray 3)).alloc (.cells (([a, 2008] : List Int).map (Value.int .i64)).toArray 3)).heap.size = w1.heap.size + 1 + 1 + 1 + 1 by simp] at R4
  replace R0 := R0.below ((Below.refl (w1.alloc (.cells (([a, a] : List Int).map (Value.int .i64)).toArray 3)).heap.size (w1.alloc (.cells (([a, a] : List Int).map (Value.int .i64)).toArray 3))).alloc (Nat.le_refl _) (.cells (([a, a - 1] : List Int).map (Value.int .i64)).toArray 3))
  replace R0 := R0.below ((Below.refl ((w1.alloc (.cells (([a, a] : List Int).map (Value.int .i64)).toArray 3)).alloc (.cells (([a, a - 1] : List Int).map (Value.int .i64)).toArray 3)).heap.size ((w1.alloc (.cells (([a, a] : List Int).map (Value.int .i64)).toArray 3)).alloc (.cells (([a, a - 1] : List Int).map (Value.int .i64)).toArray 3))).alloc (Nat.le_refl _) (.cells (([0] : List Int).map (Value.int .i64)).toArray 3))
  replace R0 := R0.below ((Below.refl (((w1.alloc (.cells (([a, a] : List Int).map (Value.int .i64)).toArray 3)).alloc (.cells (([a, a - 1] : List Int).map (Value.int .i64)).toArray 3)).alloc (.cells (([0] : List Int).map (Value.int .i64)).toArray 3)).heap.size (((w1.alloc (.cells (([a, a] : List Int).map (Value.int .i64)).toArray 3)).alloc (.cells (([a, a - 1] : List Int).map (Value.int .i64)).toArray 3)).alloc (.cells (([0] : List Int).map (Value.int .i64)).toArray 3))).alloc (Nat.le_refl _) (.cells (([a, 2008] : List Int).map (Value.int .i64)).toArray 3))
  replace R0 := R0.below ((Below.refl ((((w1.alloc (.cells (([a, a] : List Int).map (Value.int .i64)).toArray 3)).alloc (.cells (([a, a - 1] : List Int).map (Value.int .i64)).toArray 3)).alloc (.cells (([0] : List Int).map (Value.int .i64)).toArray 3)).alloc (.cells (([a, 2008] : List Int).map (Value.int .i64)).toArray 3)).heap.size ((((w1.alloc (.cells (([a, a] : List Int).map (Value.int .i64)).toArray 3)).alloc (.cells (([a, a - 1] : List Int).map (Value.int .i64)).toArray 3)).alloc (.cells (([0] : List Int).map (Value.int .i64)).toArray 3)).alloc (.cells (([a, 2008] : List Int).map (Value.int .i64)).toArray 3))).alloc (Nat.le_refl _) (.cells (([-a] : List Int).map (Value.int .i64)).toArray 3))
  have HR0 := Lib.hid R0
  clear R0
  replace R1 := R1.below ((Below.refl ((w1.alloc (.cells (([a, a] : List Int).map (Value.int .i64)).toArray 3)).alloc (.cells (([a, a - 1] : List Int).map (Value.int .i64)).toArray 3)).heap.size ((w1.alloc (.cells (([a, a] : List Int).map (Value.int .i64)).toArray 3)).alloc (.cells (([a, a - 1] : List Int).map (Value.int .i64)).toArray 3))).alloc (Nat.le_refl _) (.cells (([0] : List Int).map (Value.int .i64)).toArray 3))
  replace R1 := R1.below ((Below.refl (((w1.alloc (.cells (([a, a] : List Int).map (Value.int .i64)).toArray 3)).alloc (.cells (([a, a - 1] : List Int).map (Value.int .i64)).toArray 3)).alloc (.cells (([0] : List Int).map (Value.int .i64)).toArray 3)).heap.size (((w1.alloc (.cells (([a, a] : List Int).map (Value.int .i64)).toArray 3)).alloc (.cells (([a, a - 1] : List Int).map (Value.int .i64)).toArray 3)).alloc (.cells (([0] : List Int).map (Value.int .i64)).toArray 3))).alloc (Nat.le_refl _) (.cells (([a, 2008] : List Int).map (Value.int .i64)).toArray 3))
  replace R1 := R1.below ((Below.refl ((((w1.alloc (.cells (([a, a] : List Int).map (Value.int .i64)).toArray 3)).alloc (.cells (([a, a - 1] : List Int).map (Value.int .i64)).toArray 3)).alloc (.cells (([0] : List Int).map (Value.int .i64)).toArray 3)).alloc (.cells (([a, 2008] : List Int).map (Value.int .i64)).toArray 3)).heap.size ((((w1.alloc (.cells (([a, a] : List Int).map (Value.int .i64)).toArray 3)).alloc (.cells (([a, a - 1] : List Int).map (Value.int .i64)).toArray 3)).alloc (.cells (([0] : List Int).map (Value.int .i64)).toArray 3)).alloc (.cells (([a, 2008] : List Int).map (Value.int .i64)).toArray 3))).alloc (Nat.le_refl _) (.cells (([-a] : List Int).map (Value.int .i64)).toArray 3))
  have HR1 := Lib.hid R1
  clear R1
  replace R2 := R2.below ((Below.refl (((w1.alloc (.cells (([a, a] : List Int).map (Value.int .i64)).toArray 3)).alloc (.cells (([a, a - 1] : List Int).map (Value.int .i64)).toArray 3)).alloc (.cells (([0] : List Int).map (Value.int .i64)).toArray 3)).heap.size (((w1.alloc (.cells (([a, a] : List Int).map (Value.int .i64)).toArray 3)).alloc (.cells (([a, a - 1] : List Int).map (Value.int .i64)).toArray 3)).alloc (.cells (([0] : List Int).map (Value.int .i64)).toArray 3))).alloc (Nat.le_refl _) (.cells (([a, 2008] : List Int).map (Value.int .i64)).toArray 3))
  replace R2 := R2.below ((Below.refl ((((w1.alloc (.cells (([a, a] : List Int).map (Value.int .i64)).toArray 3)).alloc (.cells (([a, a - 1] : List Int).map (Value.int .i64)).toArray 3)).alloc (.cells (([0] : List Int).map (Value.int .i64)).toArray 3)).alloc (.cells (([a, 2008] : List Int).map (Value.int .i64)).toArray 3)).heap.size ((((w1.alloc (.cells (([a, a] : List Int).map (Value.int .i64)).toArray 3)).alloc (.cells (([a, a - 1] : List Int).map (Value.int .i64)).toArray 3)).alloc (.cells (([0] : List Int).map (Value.int .i64)).toArray 3)).alloc (.cells (([a, 2008] : List Int).map (Value.int .i64)).toArray 3))).alloc (Nat.le_refl _) (.cells (([-a] : List Int).map (Value.int .i64)).toArray 3))
  have HR2 := Lib.hid R2
  clear R2
  replace R3 := R3.below ((Below.refl ((((w1.alloc (.cells (([a, a] : List Int).map (Value.int .i64)).toArray 3)).alloc (.cells (([a, a - 1] : List Int).map (Value.int .i64)).toArray 3)).alloc (.cells (([0] : List Int).map (Value.int .i64)).toArray 3)).alloc (.cells (([a, 2008] : List Int).map (Value.int .i64)).toArray 3)).heap.size ((((w1.alloc (.cells (([a, a] : List Int).map (Value.int .i64)).toArray 3)).alloc (.cells (([a, a - 1] : List Int).map (Value.int .i64)).toArray 3)).alloc (.cells (([0] : List Int).map (Value.int .i64)).toArray 3)).alloc (.cells (([a, 2008] : List Int).map (Value.int .i64)).toArray 3))).alloc (Nat.le_refl _) (.cells (([-a] : List Int).map (Value.int .i64)).toArray 3))
  have HR3 := Lib.hid R3
  clear R3
  have HR4 := Lib.hid R4
  clear R4
  have HSZ := Lib.hid (show (((((w1.alloc (.cells (([a, a] : List Int).map (Value.int .i64)).toArray 3)).alloc (.cells (([a, a - 1] : List Int).map (Value.int .i64)).toArray 3)).alloc (.cells (([0] : List Int).map (Value.int .i64)).toArray 3)).alloc (.cells (([a, 2008] : List Int).map (Value.int .i64)).toArray 3)).alloc (.cells (([-a] : List Int).map (Value.int .i64)).toArray 3)).heap.size = w1.heap.size + 1 + 1 + 1 + 1 + 1 by simp)
  simp only [List.map_cons, List.map_nil] at HB5 HSZ HR0 HR1 HR2 HR3 HR4
  clear HB HB0 HB1 HB2 HB3 HB4
  have HB := HB5
  clear HB5
  go_wp2_with (fail)
  generalize (World.alloc (World.alloc (World.alloc (World.alloc (World.alloc w1 _) _) _) _) _) = w6 at *
  generalize w1.heap.size = h0 at *
  have T0 := Lib.hid (HB.out.alloc HB.out.size (.cells #[.int .i64 0, .int .i64 0, .bool false, .slice none 0 0, .int .i64 0, .int .i64 256, .bool false, .slice none 0 0, .int .i64 3, .int .i64 3, .bool false, .slice none 0 0, .int .i64 (-1), .int .i64 3, .bool false, .slice none 0 0, .int .i64 0, .int .i64 1, .bool false, .slice (some ⟨h0, 0, none⟩) 2 2, .int .i64 0, .int .i64 1, .bool false, .slice (some ⟨h0 + 1, 0, none⟩) 2 2, .int .i64 0, .int .i64 1, .bool false, .slice (some ⟨h0 + 1 + 1, 0, none⟩) 1 1, .int .i64 0, .int .i64 1, .bool false, .slice (some ⟨h0 + 1 + 1 + 1, 0, none⟩) 2 2, .int .i64 0, .int .i64 1, .bool false, .slice (some ⟨h0 + 1 + 1 + 1 + 1, 0, none⟩) 1 1] 24))
  have HGB := Lib.hid (heap_alloc_last w6 (.cells #[.int .i64 0, .int .i64 0, .bool false, .slice none 0 0, .int .i64 0, .int .i64 256, .bool false, .slice none 0 0, .int .i64 3, .int .i64 3, .bool false, .slice none 0 0, .int .i64 (-1), .int .i64 3, .bool false, .slice none 0 0, .int .i64 0, .int .i64 1, .bool false, .slice (some ⟨h0, 0, none⟩) 2 2, .int .i64 0, .int .i64 1, .bool false, .slice (some ⟨h0 + 1, 0, none⟩) 2 2, .int .i64 0, .int .i64 1, .bool false, .slice (some ⟨h0 + 1 + 1, 0, none⟩) 1 1, .int .i64 0, .int .i64 1, .bool false, .slice (some ⟨h0 + 1 + 1 + 1, 0, none⟩) 2 2, .int .i64 0, .int .i64 1, .bool false, .slice (some ⟨h0 + 1 + 1 + 1 + 1, 0, none⟩) 1 1] 24))
  rw [HSZ.out] at HGB
  have T1 := Lib.hid (HR0.out.below ((Below.refl w6.heap.size w6).alloc (Nat.le_refl _) (.cells #[.int .i64 0, .int .i64 0, .bool false, .slice none 0 0, .int .i64 0, .int .i64 256, .bool false, .slice none 0 0, .int .i64 3, .int .i64 3, .bool false, .slice none 0 0, .int .i64 (-1), .int .i64 3, .bool false, .slice none 0 0, .int .i64 0, .int .i64 1, .bool false, .slice (some ⟨h0, 0, none⟩) 2 2, .int .i64 0, .int .i64 1, .bool false, .slice (some ⟨h0 + 1, 0, none⟩) 2 2, .int .i64 0, .int .i64 1, .bool false, .slice (some ⟨h0 + 1 + 1, 0, none⟩) 1 1, .int .i64 0, .int .i64 1, .bool false, .slice (some ⟨h0 + 1 + 1 + 1, 0, none⟩) 2 2, .int .i64 0, .int .i64 1, .bool false, .slice (some ⟨h0 + 1 + 1 + 1 + 1, 0, none⟩) 1 1] 24)))
  have T2 := Lib.hid (HR1.out.below ((Below.refl w6.heap.size w6).alloc (Nat.le_refl _) (.cells #[.int .i64 0, .int .i64 0, .bool false, .slice none 0 0, .int .i64 0, .int .i64 256, .bool false, .slice none 0 0, .int .i64 3, .int .i64 3, .bool false, .slice none 0 0, .int .i64 (-1), .int .i64 3, .bool false, .slice none 0 0, .int .i64 0, .int .i64 1, .bool false, .slice (some ⟨h0, 0, none⟩) 2 2, .int .i64 0, .int .i64 1, .bool false, .slice (some ⟨h0 + 1, 0, none⟩) 2 2, .int .i64 0, .int .i64 1, .bool false, .slice (some ⟨h0 + 1 + 1, 0, none⟩) 1 1, .int .i64 0, .int .i64 1, .bool false, .slice (some ⟨h0 + 1 + 1 + 1, 0, none⟩) 2 2, .int .i64 0, .int .i64 1, .bool false, .slice (some ⟨h0 + 1 + 1 + 1 + 1, 0, none⟩) 1 1] 24)))
  have T3 := Lib.hid (HR2.out.below ((Below.refl w6.heap.size w6).alloc (Nat.le_refl _) (.cells #[.int .i64 0, .int .i64 0, .bool false, .slice none 0 0, .int .i64 0, .int .i64 256, .bool false, .slice none 0 0, .int .i64 3, .int .i64 3, .bool false, .slice none 0 0, .int .i64 (-1), .int .i64 3, .bool false, .slice none 0 0, .int .i64 0, .int .i64 1, .bool false, .slice (some ⟨h0, 0, none⟩) 2 2, .int .i64 0, .int .i64 1, .bool false, .slice (some ⟨h0 + 1, 0, none⟩) 2 2, .int .i64 0, .int .i64 1, .bool false, .slice (some ⟨h0 + 1 + 1, 0, none⟩) 1 1, .int .i64 0, .int .i64 1, .bool false, .slice (some ⟨h0 + 1 + 1 + 1, 0, none⟩) 2 2, .int .i64 0, .int .i64 1, .bool false, .slice (some ⟨h0 + 1 + 1 + 1 + 1, 0, none⟩) 1 1] 24)))
  have T4 := Lib.hid (HR3.out.below ((Below.refl w6.heap.size w6).alloc (Nat.le_refl _) (.cells #[.int .i64 0, .int .i64 0, .bool false, .slice none 0 0, .int .i64 0, .int .i64 256, .bool false, .slice none 0 0, .int .i64 3, .int .i64 3, .bool false, .slice none 0 0, .int .i64 (-1), .int .i64 3, .bool false, .slice none 0 0, .int .i64 0, .int .i64 1, .bool false, .slice (some ⟨h0, 0, none⟩) 2 2, .int .i64 0, .int .i64 1, .bool false, .slice (some ⟨h0 + 1, 0, none⟩) 2 2, .int .i64 0, .int .i64 1, .bool false, .slice (some ⟨h0 + 1 + 1, 0, none⟩) 1 1, .int .i64 0, .int .i64 1, .bool false, .slice (some ⟨h0 + 1 + 1 + 1, 0, none⟩) 2 2, .int .i64 0, .int .i64 1, .bool false, .slice (some ⟨h0 + 1 + 1 + 1 + 1, 0, none⟩) 1 1] 24)))
  have T5 := Lib.hid (HR4.out.below ((Below.refl w6.heap.size w6).alloc (Nat.le_refl _) (.cells #[.int .i64 0, .int .i64 0, .bool false, .slice none 0 0, .int .i64 0, .int .i64 256, .bool false, .slice none 0 0, .int .i64 3, .int .i64 3, .bool false, .slice none 0 0, .int .i64 (-1), .int .i64 3, .bool false, .slice none 0 0, .int .i64 0, .int .i64 1, .bool false, .slice (some ⟨h0, 0, none⟩) 2 2, .int .i64 0, .int .i64 1, .bool false, .slice (some ⟨h0 + 1, 0, none⟩) 2 2, .int .i64 0, .int .i64 1, .bool false, .slice (some ⟨h0 + 1 + 1, 0, none⟩) 1 1, .int .i64 0, .int .i64 1, .bool false, .slice (some ⟨h0 + 1 + 1 + 1, 0, none⟩) 2 2, .int .i64 0, .int .i64 1, .bool false, .slice (some ⟨h0 + 1 + 1 + 1 + 1, 0, none⟩) 1 1] 24)))
  clear HB HSZ HR0 HR1 HR2 HR3 HR4
  have HB := T0
  have HR0 := T1
  have HR1 := T2
  have HR2 := T3
  have HR3 := T4
  have HR4 := T5
  clear T0 T1 T2 T3 T4 T5
  generalize World.alloc w6 _ = w7 at *
  refine (number_any _ _ _ W0.out (by omega) (by omega)).mono ?_
  rintro e w' ⟨rfl, rfl⟩
  have k0 := nmod_lo n0 9 (by omega)
  have k1 := nmod_hi n0 9 (by omega)
  generalize nmod n0 9 = kk at *
  obtain ⟨k, rfl⟩ := Int.eq_ofNat_of_zero_le k0
  rcases (by omega : k = 0 ∨ k = 1 ∨ k = 2 ∨ k = 3 ∨ k = 4 ∨ k = 5 ∨ k = 6 ∨ k = 7 ∨ k = 8) with rfl | rfl | rfl | rfl | rfl | rfl | rfl | rfl | rfl
  · go_wp2_with (refine wpList_load_mid rfl 24 (.tmp 44) rfl (h0 + 1 + 1 + 1 + 1 + 1) 0 rfl [.int .i64 0, .int .i64 0, .bool false, .slice none 0 0] _ (fun j v hv => (cell_of_row w7 _ _ _ _ _ HGB.out).trans (by match j, hv with | 0, hv | 1, hv | 2, hv | 3, hv => simpa using hv)) Tryd.underlying24 rfl sizeTim ?_)
    refine (bytes_no ⟨0, 0, false, []⟩ none 0 0 E w7 RowB.nil (by decide) (HS.out.below HB.out).four).mono ?_
    rintro e w8 ⟨rfl, hB⟩
    clear HGB HR0 HR1 HR2 HR3 HR4
    have T0 := Lib.hid (HB.out.trans (hB.mono HB.out.size))
    clear hB HB
    have HB := T0
    clear T0
    go_wp2_with (fail)
    refine (is_err E 103 103 w8 (HS.out.below HB.out) (.inr (by decide))).mono ?_
    rintro e w9 ⟨rfl, hB⟩
    rw [show (((103 : Nat) : Int) == 103) = true by decide]
    have T0 := Lib.hid (HB.out.trans (hB.mono HB.out.size))
    clear hB HB
    have HB := T0
    clear T0
    go_wp2_with (fail)
    refine (has_any none 0 0 [] a E w9 RowB.nil (HS.out.below HB.out).four (Nat.le_refl _)).mono ?_
    rintro e w10 ⟨rfl, hB⟩
    rw [hasT_nil]
    have T0 := Lib.hid (HB.out.trans (hB.mono HB.out.size))
    clear hB HB
    have HB := T0
    clear T0
    go_wp2
    go_ret
    exact ⟨rfl, HB.out⟩
  · go_wp2_with (refine wpList_load_mid rfl 24 (.tmp 44) rfl (h0 + 1 + 1 + 1 + 1 + 1) 4 rfl [.int .i64 0, .int .i64 256, .bool false, .slice none 0 0] _ (fun j v hv => (cell_of_row w7 _ _ _ _ _ HGB.out).trans (by match j, hv with | 0, hv | 1, hv | 2, hv | 3, hv => simpa using hv)) Tryd.underlying24 rfl sizeTim ?_)
    refine (bytes_no ⟨0, 256, false, []⟩ none 0 0 E w7 RowB.nil (by decide) (HS.out.below HB.out).four).mono ?_
    rintro e w8 ⟨rfl, hB⟩
    clear HGB HR0 HR1 HR2 HR3 HR4
    have T0 := Lib.hid (HB.out.trans (hB.mono HB.out.size))
    clear hB HB
    have HB := T0
    clear T0
    go_wp2_with (fail)
    refine (is_err E 103 103 w8 (HS.out.below HB.out) (.inr (by decide))).mono ?_
    rintro e w9 ⟨rfl, hB⟩
    rw [show (((103 : Nat) : Int) == 103) = true by decide]
    have T0 := Lib.hid (HB.out.trans (hB.mono HB.out.size))
    clear hB HB
    have HB := T0
    clear T0
    go_wp2_with (fail)
    refine (has_any none 0 0 [] a E w9 RowB.nil (HS.out.below HB.out).four (Nat.le_refl _)).mono ?_
    rintro e w10 ⟨rfl, hB⟩
    rw [hasT_nil]
    have T0 := Lib.hid (HB.out.trans (hB.mono HB.out.size))
    clear hB HB
    have HB := T0
    clear T0
    go_wp2
    go_ret
    exact ⟨rfl, HB.out⟩
  · go_wp2_with (refine wpList_load_mid rfl 24 (.tmp 44) rfl (h0 + 1 + 1 + 1 + 1 + 1) 8 rfl [.int .i64 3, .int .i64 3, .bool false, .slice none 0 0] _ (fun j v hv => (cell_of_row w7 _ _ _ _ _ HGB.out).trans (by match j, hv with | 0, hv | 1, hv | 2, hv | 3, hv => simpa using hv)) Tryd.underlying24 rfl sizeTim ?_)
    refine (bytes_no ⟨3, 3, false, []⟩ none 0 0 E w7 RowB.nil (by decide) (HS.out.below HB.out).four).mono ?_
    rintro e w8 ⟨rfl, hB⟩
    clear HGB HR0 HR1 HR2 HR3 HR4
    have T0 := Lib.hid (HB.out.trans (hB.mono HB.out.size))
    clear hB HB
    have HB := T0
    clear T0
    go_wp2_with (fail)
    refine (is_err E 103 103 w8 (HS.out.below HB.out) (.inr (by decide))).mono ?_
    rintro e w9 ⟨rfl, hB⟩
    rw [show (((103 : Nat) : Int) == 103) = true by decide]
    have T0 := Lib.hid (HB.out.trans (hB.mono HB.out.size))
    clear hB HB
    have HB := T0
    clear T0
    go_wp2_with (fail)
    refine (has_any none 0 0 [] a E w9 RowB.nil (HS.out.below HB.out).four (Nat.le_refl _)).mono ?_
    rintro e w10 ⟨rfl, hB⟩
    rw [hasT_nil]
    have T0 := Lib.hid (HB.out.trans (hB.mono HB.out.size))
    clear hB HB
    have HB := T0
    clear T0
    go_wp2
    go_ret
    exact ⟨rfl, HB.out⟩
  · go_wp2_with (refine wpList_load_mid rfl 24 (.tmp 44) rfl (h0 + 1 + 1 + 1 + 1 + 1) 12 rfl [.int .i64 (-1), .int .i64 3, .bool false, .slice none 0 0] _ (fun j v hv => (cell_of_row w7 _ _ _ _ _ HGB.out).trans (by match j, hv with | 0, hv | 1, hv | 2, hv | 3, hv => simpa using hv)) Tryd.underlying24 rfl sizeTim ?_)
    refine (bytes_no ⟨(-1), 3, false, []⟩ none 0 0 E w7 RowB.nil (by decide) (HS.out.below HB.out).four).mono ?_
    rintro e w8 ⟨rfl, hB⟩
    clear HGB HR0 HR1 HR2 HR3 HR4
    have T0 := Lib.hid (HB.out.trans (hB.mono HB.out.size))
    clear hB HB
    have HB := T0
    clear T0
    go_wp2_with (fail)
    refine (is_err E 103 103 w8 (HS.out.below HB.out) (.inr (by decide))).mono ?_
    rintro e w9 ⟨rfl, hB⟩
    rw [show (((103 : Nat) : Int) == 103) = true by decide]
    have T0 := Lib.hid (HB.out.trans (hB.mono HB.out.size))
    clear hB HB
    have HB := T0
    clear T0
    go_wp2_with (fail)
    refine (has_any none 0 0 [] a E w9 RowB.nil (HS.out.below HB.out).four (Nat.le_refl _)).mono ?_
    rintro e w10 ⟨rfl, hB⟩
    rw [hasT_nil]
    have T0 := Lib.hid (HB.out.trans (hB.mono HB.out.size))
    clear hB HB
    have HB := T0
    clear T0
    go_wp2
    go_ret
    exact ⟨rfl, HB.out⟩
  · go_wp2_with (refine wpList_load_mid rfl 24 (.tmp 44) rfl (h0 + 1 + 1 + 1 + 1 + 1) 16 rfl [.int .i64 0, .int .i64 1, .bool false, .slice (some ⟨h0, 0, none⟩) 2 2] _ (fun j v hv => (cell_of_row w7 _ _ _ _ _ HGB.out).trans (by match j, hv with | 0, hv | 1, hv | 2, hv | 3, hv => simpa using hv)) Tryd.underlying24 rfl sizeTim ?_)
    refine (bytes_no ⟨0, 1, false, [a, a]⟩ (some ⟨h0, 0, none⟩) 2 2 E w7 HR0.out (not_rise (by simp [rises] <;> omega)) (HS.out.below HB.out).four).mono ?_
    rintro e w8 ⟨rfl, hB⟩
    clear HGB HR0 HR1 HR2 HR3 HR4
    have T0 := Lib.hid (HB.out.trans (hB.mono HB.out.size))
    clear hB HB
    have HB := T0
    clear T0
    go_wp2_with (fail)
    refine (is_err E 103 103 w8 (HS.out.below HB.out) (.inr (by decide))).mono ?_
    rintro e w9 ⟨rfl, hB⟩
    rw [show (((103 : Nat) : Int) == 103) = true by decide]
    have T0 := Lib.hid (HB.out.trans (hB.mono HB.out.size))
    clear hB HB
    have HB := T0
    clear T0
    go_wp2_with (fail)
    refine (has_any none 0 0 [] a E w9 RowB.nil (HS.out.below HB.out).four (Nat.le_refl _)).mono ?_
    rintro e w10 ⟨rfl, hB⟩
    rw [hasT_nil]
    have T0 := Lib.hid (HB.out.trans (hB.mono HB.out.size))
    clear hB HB
    have HB := T0
    clear T0
    go_wp2
    go_ret
    exact ⟨rfl, HB.out⟩
  · go_wp2_with (refine wpList_load_mid rfl 24 (.tmp 44) rfl (h0 + 1 + 1 + 1 + 1 + 1) 20 rfl [.int .i64 0, .int .i64 1, .bool false, .slice (some ⟨h0 + 1, 0, none⟩) 2 2] _ (fun j v hv => (cell_of_row w7 _ _ _ _ _ HGB.out).trans (by match j, hv with | 0, hv | 1, hv | 2, hv | 3, hv => simpa using hv)) Tryd.underlying24 rfl sizeTim ?_)
    refine (bytes_no ⟨0, 1, false, [a, a - 1]⟩ (some ⟨h0 + 1, 0, none⟩) 2 2 E w7 HR1.out (not_rise (by simp [rises] <;> omega)) (HS.out.below HB.out).four).mono ?_
    rintro e w8 ⟨rfl, hB⟩
    clear HGB HR0 HR1 HR2 HR3 HR4
    have T0 := Lib.hid (HB.out.trans (hB.mono HB.out.size))
    clear hB HB
    have HB := T0
    clear T0
    go_wp2_with (fail)
    refine (is_err E 103 103 w8 (HS.out.below HB.out) (.inr (by decide))).mono ?_
    rintro e w9 ⟨rfl, hB⟩
    rw [show (((103 : Nat) : Int) == 103) = true by decide]
    have T0 := Lib.hid (HB.out.trans (hB.mono HB.out.size))
    clear hB HB
    have HB := T0
    clear T0
    go_wp2_with (fail)
    refine (has_any none 0 0 [] a E w9 RowB.nil (HS.out.below HB.out).four (Nat.le_refl _)).mono ?_
    rintro e w10 ⟨rfl, hB⟩
    rw [hasT_nil]
    have T0 := Lib.hid (HB.out.trans (hB.mono HB.out.size))
    clear hB HB
    have HB := T0
    clear T0
    go_wp2
    go_ret
    exact ⟨rfl, HB.out⟩
  · go_wp2_with (refine wpList_load_mid rfl 24 (.tmp 44) rfl (h0 + 1 + 1 + 1 + 1 + 1) 24 rfl [.int .i64 0, .int .i64 1, .bool false, .slice (some ⟨h0 + 1 + 1, 0, none⟩) 1 1] _ (fun j v hv => (cell_of_row w7 _ _ _ _ _ HGB.out).trans (by match j, hv with | 0, hv | 1, hv | 2, hv | 3, hv => simpa using hv)) Tryd.underlying24 rfl sizeTim ?_)
    refine (bytes_no ⟨0, 1, false, [0]⟩ (some ⟨h0 + 1 + 1, 0, none⟩) 1 1 E w7 HR2.out (not_rise (by simp [rises] <;> omega)) (HS.out.below HB.out).four).mono ?_
    rintro e w8 ⟨rfl, hB⟩
    clear HGB HR0 HR1 HR2 HR3 HR4
    have T0 := Lib.hid (HB.out.trans (hB.mono HB.out.size))
    clear hB HB
    have HB := T0
    clear T0
    go_wp2_with (fail)
    refine (is_err E 103 103 w8 (HS.out.below HB.out) (.inr (by decide))).mono ?_
    rintro e w9 ⟨rfl, hB⟩
    rw [show (((103 : Nat) : Int) == 103) = true by decide]
    have T0 := Lib.hid (HB.out.trans (hB.mono HB.out.size))
    clear hB HB
    have HB := T0
    clear T0
    go_wp2_with (fail)
    refine (has_any none 0 0 [] a E w9 RowB.nil (HS.out.below HB.out).four (Nat.le_refl _)).mono ?_
    rintro e w10 ⟨rfl, hB⟩
    rw [hasT_nil]
    have T0 := Lib.hid (HB.out.trans (hB.mono HB.out.size))
    clear hB HB
    have HB := T0
    clear T0
    go_wp2
    go_ret
    exact ⟨rfl, HB.out⟩
  · go_wp2_with (refine wpList_load_mid rfl 24 (.tmp 44) rfl (h0 + 1 + 1 + 1 + 1 + 1) 28 rfl [.int .i64 0, .int .i64 1, .bool false, .slice (some ⟨h0 + 1 + 1 + 1, 0, none⟩) 2 2] _ (fun j v hv => (cell_of_row w7 _ _ _ _ _ HGB.out).trans (by match j, hv with | 0, hv | 1, hv | 2, hv | 3, hv => simpa using hv)) Tryd.underlying24 rfl sizeTim ?_)
    refine (bytes_no ⟨0, 1, false, [a, 2008]⟩ (some ⟨h0 + 1 + 1 + 1, 0, none⟩) 2 2 E w7 HR3.out (not_rise (by simp [rises] <;> omega)) (HS.out.below HB.out).four).mono ?_
    rintro e w8 ⟨rfl, hB⟩
    clear HGB HR0 HR1 HR2 HR3 HR4
    have T0 := Lib.hid (HB.out.trans (hB.mono HB.out.size))
    clear hB HB
    have HB := T0
    clear T0
    go_wp2_with (fail)
    refine (is_err E 103 103 w8 (HS.out.below HB.out) (.inr (by decide))).mono ?_
    rintro e w9 ⟨rfl, hB⟩
    rw [show (((103 : Nat) : Int) == 103) = true by decide]
    have T0 := Lib.hid (HB.out.trans (hB.mono HB.out.size))
    clear hB HB
    have HB := T0
    clear T0
    go_wp2_with (fail)
    refine (has_any none 0 0 [] a E w9 RowB.nil (HS.out.below HB.out).four (Nat.le_refl _)).mono ?_
    rintro e w10 ⟨rfl, hB⟩
    rw [hasT_nil]
    have T0 := Lib.hid (HB.out.trans (hB.mono HB.out.size))
    clear hB HB
    have HB := T0
    clear T0
    go_wp2
    go_ret
    exact ⟨rfl, HB.out⟩
  · go_wp2_with (refine wpList_load_mid rfl 24 (.tmp 44) rfl (h0 + 1 + 1 + 1 + 1 + 1) 32 rfl [.int .i64 0, .int .i64 1, .bool false, .slice (some ⟨h0 + 1 + 1 + 1 + 1, 0, none⟩) 1 1] _ (fun j v hv => (cell_of_row w7 _ _ _ _ _ HGB.out).trans (by match j, hv with | 0, hv | 1, hv | 2, hv | 3, hv => simpa using hv)) Tryd.underlying24 rfl sizeTim ?_)
    refine (bytes_no ⟨0, 1, false, [-a]⟩ (some ⟨h0 + 1 + 1 + 1 + 1, 0, none⟩) 1 1 E w7 HR4.out (not_rise (by simp [rises] <;> omega)) (HS.out.below HB.out).four).mono ?_
    rintro e w8 ⟨rfl, hB⟩
    clear HGB HR0 HR1 HR2 HR3 HR4
    have T0 := Lib.hid (HB.out.trans (hB.mono HB.out.size))
    clear hB HB
    have HB := T0
    clear T0
    go_wp2_with (fail)
    refine (is_err E 103 103 w8 (HS.out.below HB.out) (.inr (by decide))).mono ?_
    rintro e w9 ⟨rfl, hB⟩
    rw [show (((103 : Nat) : Int) == 103) = true by decide]
    have T0 := Lib.hid (HB.out.trans (hB.mono HB.out.size))
    clear hB HB
    have HB := T0
    clear T0
    go_wp2_with (fail)
    refine (has_any none 0 0 [] a E w9 RowB.nil (HS.out.below HB.out).four (Nat.le_refl _)).mono ?_
    rintro e w10 ⟨rfl, hB⟩
    rw [hasT_nil]
    have T0 := Lib.hid (HB.out.trans (hB.mono HB.out.size))
    clear hB HB
    have HB := T0
    clear T0
    go_wp2
    go_ret
    exact ⟨rfl, HB.out⟩
end Go.Proofs.YtocghdjadojimaaDoor.timWrong
