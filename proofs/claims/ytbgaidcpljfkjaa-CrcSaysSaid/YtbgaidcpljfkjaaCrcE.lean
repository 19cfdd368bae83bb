/-
  CONTRACT of muezzinlaw2.first; what is sealed fits.
-/
import Derived.Test.YtbgaidcpljfkjaaCrcD
namespace Go.Proofs.Ytbgaidcpljfkjaa
open Go.ChangeShapes Go.WideShapes Go.ChangeAt Go.RowKit
set_option linter.unusedVariables false

theorem fitsB_seal (xs : List Int) : fitsB (xs ++ [sum xs]) = true := by
  unfold fitsB
  simp [List.getD]
theorem OwnB.row8 {w : World} {base : Nat} {T : TypeId} {g n cap : Nat} {xs : List Int} (h : OwnB w base T .u8 g n cap xs) (hw : ∀ i, i < n → 0 ≤ xs.getD i 0 ∧ xs.getD i 0 ≤ 255) : RowB .u8 w (some ⟨g, 0, none⟩) n xs :=
  h.row fun i hi => by simpa [IntKind.min, IntKind.max, IntKind.signed, IntKind.bits] using hw i hi
theorem OwnB.cap_le {w : World} {base : Nat} {T : TypeId} {k : IntKind} {g n cap : Nat} {xs : List Int} (h : OwnB w base T k g n cap xs) : n ≤ cap := by
  rcases h.2 with ⟨h', _⟩ | ⟨g', cap', cur, h', _, _, h1, _⟩
  · simp at h'
  · injection h' with _ _ e
    subst e
    exact h1
theorem seal_wf {xs : List Int} {n : Nat} (hl : xs.length = n) (hw : ∀ i, i < n → 0 ≤ xs.getD i 0 ∧ xs.getD i 0 ≤ 255) : ∀ i, i < n + 1 → 0 ≤ (xs ++ [sum xs]).getD i 0 ∧ (xs ++ [sum xs]).getD i 0 ≤ 255 := by
  intro i hi
  by_cases h : i < n
  · have : (xs ++ [sum xs]).getD i 0 = xs.getD i 0 := by simp [List.getD, List.getElem?_append, hl, h]
    rw [this]; exact hw i h
  · have : (xs ++ [sum xs]).getD i 0 = sum xs := by
      have hi' : i = n := by omega
      subst hi'
      simp [List.getD, ← hl]
    rw [this]; exact sum_range xs
theorem rowB_two (w : World) : RowB .u8 (w.alloc (.cells #[.int .u8 1, .int .u8 2] 5)) (some ⟨w.heap.size, 0, none⟩) 2 [1, 2] := by
  have h : OwnB (w.alloc (.cells #[.int .u8 1, .int .u8 2] 5)) w.heap.size 5 .u8 w.heap.size 2 2 [1, 2] := World.ownsRow_lit w #[.int .u8 1, .int .u8 2] 2 (Nat.le_refl _) (by unfold maxLen; omega) rfl
  refine h.row8 fun i hi => ?_
  match i, hi with
  | 0, _ => exact ⟨by decide, by decide⟩
  | 1, _ => exact ⟨by decide, by decide⟩

set_option maxRecDepth 100000 in
set_option maxHeartbeats 4000000 in
theorem first_any (w : World) :
    Calls Try.prog 7 #[] w fun e w' => e = .returned (.bool true) ∧ Below w.heap.size w w' := by
  have HR := Lib.hid (rowB_two w)
  have HA := Lib.hid ((Below.refl w.heap.size w).alloc (Nat.le_refl _) (.cells #[.int .u8 1, .int .u8 2] 5))
  have HF := Lib.hid (fitsB_seal [1, 2])
  have HW := Lib.hid (seal_wf (xs := [1, 2]) (n := 2) rfl (by
    intro i hi
    match i, hi with
    | 0, _ => exact ⟨by decide, by decide⟩
    | 1, _ => exact ⟨by decide, by decide⟩))
  obtain ⟨s, HZ, HZ'⟩ : ∃ s : Int, Hid (∀ w : World, Calls Try.prog 9 #[.slice none 0 0] w fun e w' => e = .returned (.int .u8 s) ∧ w = w') ∧ Hid (∀ w : World, Calls Try.prog 8 #[.slice none 0 0] w fun e w' => e = .returned (.int .u8 s) ∧ w = w') :=
    ⟨sum [], fun w => sum_any none 0 0 [] w RowB.nil, fun w => refsum_any none 0 0 [] w RowB.nil⟩
  go_enter Try.func7, Try.ntmps7
  go_wp2_with (go_at_call 11; refine (seal_any _ _ _ [1, 2] _ HR.out (by omega)).mono ?_; rintro e w1 ⟨rfl, hO, hB⟩)
  have HB := Lib.hid ((HA.out).trans (hB.mono (HA.out).size))
  rw [show (w.alloc (.cells #[.int .u8 1, .int .u8 2] 5)).heap.size = w.heap.size + 1 by simp] at hO
  have HR1 := Lib.hid (hO.row8 HW.out)
  clear hO hB
  refine (fits_any _ _ _ _ _ HR1.out (by omega)).mono ?_
  rintro e w2 ⟨rfl, m, rfl⟩
  rw [HF.out]
  have HB1 := Lib.hid (below_drewN HB.out m)
  go_wp2_with (first | (go_at_call 9; refine (HZ.out _).mono ?_; rintro e w' ⟨rfl, rfl⟩) | (go_at_call 8; refine (HZ'.out _).mono ?_; rintro e w' ⟨rfl, rfl⟩))
  go_ret
  exact ⟨rfl, HB1.out⟩
end Go.Proofs.Ytbgaidcpljfkjaa
