/-
  CONTRACTS of package edca: soonest.
-/
import Derived.Test.YtndkmgcmegcieaaDoorEdcaB
namespace Go.Proofs.YtndkmgcmegcieaaDoor
open Go.ChangeShapes Go.WideShapes Go.ChangeAt Go.RowKit Go.Deep
set_option linter.unusedVariables false
set_option linter.unusedSimpArgs false


/-! ### soonest -/
def winI : Option (Nat × Nat) → Int
  | none => -1
  | some (a, _) => (a : Int)
theorem best_skip' {c : Nat → Nat} {r : Nat → Bool} {i : Nat} (h : r i = false) : bestE c r (i + 1) = bestE c r i := by
  show (if r i = false then _ else _) = _
  rw [if_pos h]
theorem best_new {c : Nat → Nat} {r : Nat → Bool} {i : Nat} (h : r i = true) (hb : bestE c r i = none) : bestE c r (i + 1) = some (i, timeE c i) := by
  show (if r i = false then bestE c r i else match bestE c r i with | none => some (i, timeE c i) | some (a, t) => if timeE c i ≤ t then some (i, timeE c i) else some (a, t)) = _
  rw [if_neg (by rw [h]; simp), hb]
theorem best_less {c : Nat → Nat} {r : Nat → Bool} {i a t : Nat} (h : r i = true) (hb : bestE c r i = some (a, t)) (ht : timeE c i ≤ t) : bestE c r (i + 1) = some (i, timeE c i) := by
  show (if r i = false then bestE c r i else match bestE c r i with | none => some (i, timeE c i) | some (a, t) => if timeE c i ≤ t then some (i, timeE c i) else some (a, t)) = _
  rw [if_neg (by rw [h]; simp), hb]
  exact if_pos ht
theorem best_keep' {c : Nat → Nat} {r : Nat → Bool} {i a t : Nat} (h : r i = true) (hb : bestE c r i = some (a, t)) (ht : ¬ timeE c i ≤ t) : bestE c r (i + 1) = some (a, t) := by
  show (if r i = false then bestE c r i else match bestE c r i with | none => some (i, timeE c i) | some (a, t) => if timeE c i ≤ t then some (i, timeE c i) else some (a, t)) = _
  rw [if_neg (by rw [h]; simp), hb]
  exact if_neg ht
set_option maxRecDepth 100000 in
set_option maxHeartbeats 8000000 in
theorem soonest_any (g : Nat) (e : Ec) (r : Nat → Bool) (w : World) (hg : IsEd w g e) (hR : Rul w) (hi : InvE e) (hc : ∀ a, a < 4 → r a = true → 1 ≤ e.ct a) :
    Calls Tryd.prog 20 #[.pointer (some ⟨g, 0, none⟩), bA r] w fun x w' => x = .returned (.int .i64 (winI (bestE e.ct r 4))) ∧ Below w.heap.size w w' := by
  have HC := Shut.mk hc
  have HI := Shut.mk hi
  have HW := Shut.mk (show Below w.heap.size w (w.alloc (Obj.cells #[.bool (r 0), .bool (r 1), .bool (r 2), .bool (r 3)] 26 (0, 0))) from (Below.refl w.heap.size w).alloc (Nat.le_refl _) _)
  have HG := Shut.mk (hg.below HW.out)
  have HR := Shut.mk (hR.below HW.out)
  unfold bA
  clear hg hR hi hc
  go_enter Tryd.func20, Tryd.ntmps20
  go_wp2_with (fail)
  generalize World.alloc w _ = w1 at *
  go_loopw [5, 6, 7, 9] (fun s5 _ _ s9 wr => ∃ i : Nat, i ≤ 4 ∧ s9 = .int .i64 (i : Int) ∧ s5 = .int .i64 (winI (bestE e.ct r i)) ∧ Shut (Below w1.heap.size w1 wr)) (fun _ _ _ s9 _ => 4 - (intOf s9).toNat)
  case atStart => exact ⟨0, Nat.zero_le _, rfl, rfl, ⟨Below.refl _ _⟩⟩
  case round =>
    obtain ⟨i, hi, rfl, rfl, HB⟩ := hrel
    by_cases hlt : i < 4
    · have hl2 : (i : Int) < 4 := by omega
      have HL := Shut.mk hlt
      have hix := idxB r i hlt
      obtain ⟨ri, hri⟩ : ∃ b, b = r i := ⟨_, rfl⟩
      rw [← hri] at hix
      have HRI := Shut.mk hri
      clear hri hi hlt
      unfold bA at hix
      cases ri with
      | false =>
        have HN := Shut.mk (show winI (bestE e.ct r i) = winI (bestE e.ct r (i + 1)) by rw [best_skip' HRI.out.symm])
        generalize winI (bestE e.ct r i) = wv at *
        go_wp2_with (fail)
        go_roundw
        case rel => exact ⟨i + 1, HL.out, by go_num, by rw [HN.out], HB⟩
        case measure => have := HL.out; simp [intOf]; omega
      | true =>
      have HTI := Shut.mk (time_any g e i wr (HG.out.below HB.out) (HR.out.below HB.out) HL.out (HC.out i HL.out HRI.out.symm) (HI.out.ct i))
      cases hb : bestE e.ct r i with
      | none =>
        have HN := Shut.mk (show (i : Int) = winI (bestE e.ct r (i + 1)) by rw [best_new HRI.out.symm hb]; rfl)
        rw [show winI none = -1 from rfl]
        clear hb
        go_wp2_with (fail)
        go_roundw
        case rel => exact ⟨i + 1, HL.out, by go_num, by rw [← HN.out], HB⟩
        case measure => have := HL.out; simp [intOf]; omega
      | some p =>
        obtain ⟨a, t⟩ := p
        obtain ⟨h1, h2, h3, -, -⟩ := best_some hb
        have HA := Shut.mk (show a < 4 by have := HL.out; omega)
        have HRA := Shut.mk h2
        have HT := Shut.mk h3
        have HBB := Shut.mk hb
        have hneg : ¬ (a : Int) < 0 := by omega
        rw [show winI (some (a, t)) = (a : Int) from rfl]
        clear hb h1 h2 h3
        go_wp2_with (fail)
        refine HTI.out.mono ?_
        rintro x w2 ⟨rfl, hB⟩
        have HB2 := Shut.mk (HB.out.trans (hB.mono HB.out.size))
        clear hB HTI
        go_wp2_with (fail)
        refine (time_any g e a w2 (HG.out.below HB2.out) (HR.out.below HB2.out) HA.out (HC.out a HA.out HRA.out) (HI.out.ct a)).mono ?_
        rintro x w3 ⟨rfl, hB⟩
        have HB3 := Shut.mk (HB2.out.trans (hB.mono HB2.out.size))
        rw [← HT.out]
        clear hB
        by_cases hle : timeE e.ct i ≤ t
        · have HN := Shut.mk (show (i : Int) = winI (bestE e.ct r (i + 1)) by rw [best_less HRI.out.symm HBB.out hle]; rfl)
          have hle2 : ((timeE e.ct i : Nat) : Int) ≤ (t : Int) := by omega
          go_wp2_with (fail)
          go_roundw
          case rel => exact ⟨i + 1, HL.out, by go_num, by rw [← HN.out], HB3⟩
          case measure => have := HL.out; simp [intOf]; omega
        · have HN := Shut.mk (show (a : Int) = winI (bestE e.ct r (i + 1)) by rw [best_keep' HRI.out.symm HBB.out hle]; rfl)
          have hle2 : ¬ ((timeE e.ct i : Nat) : Int) ≤ (t : Int) := by omega
          go_wp2_with (fail)
          go_roundw
          case rel => exact ⟨i + 1, HL.out, by go_num, by rw [← HN.out], HB3⟩
          case measure => have := HL.out; simp [intOf]; omega
    · obtain rfl : i = 4 := by omega
      go_wp2_with (fail)
      go_ret
      exact ⟨rfl, HW.out.trans (HB.out.mono HW.out.size)⟩
end Go.Proofs.YtndkmgcmegcieaaDoor
