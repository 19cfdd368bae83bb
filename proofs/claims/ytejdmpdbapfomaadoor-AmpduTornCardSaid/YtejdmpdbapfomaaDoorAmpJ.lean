/-
  CONTRACTS all in one: Pack's answer as a row; the errors' codes; muezzinlaw7.first; literal slices of parts.
-/
import Derived.Test.YtejdmpdbapfomaaDoorAmpI
namespace Go.Proofs.YtejdmpdbapfomaaDoor
open Go.ChangeShapes Go.WideShapes Go.ChangeAt Go.RowKit Go.Deep
set_option linter.unusedVariables false
set_option linter.unusedSimpArgs false

theorem codeP_S14 (l : List (List Int)) : codeP l = 0 ∨ codeP l ∈ S14 := by
  unfold codeP
  repeat' split
  all_goals first | exact .inl rfl | exact .inr (by decide)
theorem codeR_S14 (xs : List Int) : codeR xs = 0 ∨ codeR xs ∈ S14 := by
  by_cases h0 : xs = []
  · exact .inr (by rw [h0]; decide)
  have key : ∀ (n : Nat) (r : List Int), r.length ≤ n → (partsR r).1 = 0 ∨ (partsR r).1 ∈ S14 := by
    intro n
    induction n with
    | zero =>
      intro r hr
      rw [List.eq_nil_of_length_eq_zero (show r.length = 0 by omega), parts_nil]
      exact .inl rfl
    | succ n ih =>
      intro r hr
      rw [partsR]
      split
      · exact .inl rfl
      split
      · exact .inr (by decide)
      split
      · exact .inr (by decide)
      split
      · exact .inr (by decide)
      split
      · exact .inr (by decide)
      split
      · exact .inr (by decide)
      split
      · exact .inr (by decide)
      rename_i h1 h2 h3 h4 h5 h6 h7
      have := ih (r.drop (4 + lenD r + pad (lenD r))) (by simp; omega)
      unfold comb
      split
      · exact .inl rfl
      · exact this
  unfold codeR
  rw [if_neg h0]
  split
  · rcases key xs.length xs (Nat.le_refl _) with h | h
    · exact .inl h
    · exact .inr h
  · split
    · exact .inr (by decide)
    · exact .inl rfl
/-- Pack's answer as a row. -/
def OutS (l : List (List Int)) (E : Nat → Addr) (w : World) (e : Ending) (w' : World) : Prop := ∃ A m c, e = .returned (.tuple #[.slice A m c, errV E (codeP l)]) ∧ RowB .u8 w' A m (if codeP l = 0 then packB l else []) ∧ m ≤ c ∧ Below w.heap.size w w'
theorem codeP_ok {l : List (List Int)} (h : codeP l = 0) : (∀ p ∈ l, okP p = true) ∧ l ≠ [] ∧ l.length ≤ 64 ∧ (packB l).length ≤ 65535 := by
  unfold codeP at h
  split at h
  · cases h
  rename_i h1
  split at h
  · cases h
  rename_i h2
  simp only [not_or] at h1
  refine ⟨fun p hp => ?_, h1.1, by omega, by omega⟩
  have := h1.2
  simp only [Bool.not_eq_true, List.any_eq_false] at this
  simpa using this p hp
theorem codeP_wf {l : List (List Int)} (h : codeP l = 0) (hp : ∀ p ∈ l, ∀ v ∈ p, 0 ≤ v ∧ v ≤ 255) : ∀ i, i < (packB l).length → 0 ≤ (packB l).getD i 0 ∧ (packB l).getD i 0 ≤ 255 :=
  pack_wf (fun p hq => (okP_iff.1 ((codeP_ok h).1 p hq)).2) hp
theorem pack_row (A : Option Addr) (n c : Nat) (l : List (List Int)) (E : Nat → Addr) (w : World) (h : RowP w A n l) (hn : n ≤ 100000) (hS : Sent w E S5) :
    Calls Tryd.prog 10 #[.slice A n c] w fun e w' => OutS l E w e w' := by
  refine (pack_any A n c l E w h hn hS).mono ?_
  rintro e w' ⟨v, rfl, hg, hb, hB⟩
  by_cases hc : codeP l = 0
  · obtain ⟨g, cap, rfl, hO⟩ := hg hc
    exact ⟨_, _, _, rfl, by rw [if_pos hc]; exact hO.row8 (codeP_wf hc h.wf8), hO.cap_le, hB⟩
  · rw [hb hc]
    exact ⟨none, 0, 0, rfl, by rw [if_neg hc]; exact RowB.nil, Nat.le_refl _, hB⟩

/-! ### literal slices of parts; the chapter's example -/
theorem lit_parts1 (w : World) (a : Option Addr) (m c : Nat) (p : List Int) (t : TypeId) (hr : RowB .u8 w a m p) (hc : m ≤ c) : RowP (w.alloc (.cells #[.slice a m c] t)) (some ⟨w.heap.size, 0, none⟩) 1 [p] := by
  refine ⟨rfl, by unfold maxLen; omega, fun _ => ⟨_, _, rfl, fun i hi => ?_⟩⟩
  obtain rfl : i = 0 := by omega
  exact ⟨a, m, c, by rw [Nat.zero_add, World.cell?_alloc_mark]; rfl, hr.below ((Below.refl w.heap.size w).alloc (Nat.le_refl _) _), hc⟩
theorem lit_parts2 (w : World) (a : Option Addr) (m c : Nat) (p : List Int) (t : TypeId) (hr : RowB .u8 w a m p) (hc : m ≤ c) : RowP (w.alloc (.cells #[.slice a m c, .slice none 0 0] t)) (some ⟨w.heap.size, 0, none⟩) 2 [p, []] := by
  refine ⟨rfl, by unfold maxLen; omega, fun _ => ⟨_, _, rfl, fun i hi => ?_⟩⟩
  match i, hi with
  | 0, _ => exact ⟨a, m, c, by rw [Nat.zero_add, World.cell?_alloc_mark]; rfl, hr.below ((Below.refl w.heap.size w).alloc (Nat.le_refl _) _), hc⟩
  | 1, _ => exact ⟨none, 0, 0, by rw [Nat.zero_add, World.cell?_alloc_mark]; rfl, RowB.nil, Nat.le_refl _⟩
theorem lit_ints (w : World) (ys : List Int) (t : TypeId) (hy : ∀ v ∈ ys, -9223372036854775808 ≤ v ∧ v ≤ 9223372036854775807) (hl : ys.length ≤ maxLen) : RowB .i64 (w.alloc (.cells (ys.map (Value.int .i64)).toArray t)) (some ⟨w.heap.size, 0, none⟩) ys.length ys := by
  refine ⟨rfl, hl, fun i hi => ?_, fun hp => ⟨_, _, rfl, fun i hi => ?_⟩⟩
  · have := hy _ (mem_getD hi)
    simpa [IntKind.min, IntKind.max, IntKind.signed, IntKind.bits] using this
  · rw [Nat.zero_add, World.cell?_alloc_mark]
    simp [List.getD, hi]
theorem code123 : codeP [[1, 2, 3]] = 0 := codeP_is (by simp) (by intro p hp; simp at hp; subst hp; rfl) (by simp) (by simp [packB, bare_len])
set_option maxRecDepth 100000 in
set_option maxHeartbeats 8000000 in
theorem first_any (E : Nat → Addr) (w : World) (hS : Sent w E S5) :
    Calls Tryd.prog 8 #[] w fun e w' => e = .returned (.bool true) ∧ Below w.heap.size w w' := by
  have HB1 := Lib.hid ((Below.refl w.heap.size w).alloc (Nat.le_refl _) (.cells #[.int .u8 1, .int .u8 2, .int .u8 3] 5))
  have HR1 := Lib.hid (lit_row w [1, 2, 3] 5 (by intro v hv; simp at hv; omega) (by simp; unfold maxLen; omega))
  have HB2 := Lib.hid (HB1.out.alloc HB1.out.size (.cells #[.slice (some ⟨w.heap.size, 0, none⟩) 3 3] 23))
  have HP2 := Lib.hid (lit_parts1 (w.alloc (.cells #[.int .u8 1, .int .u8 2, .int .u8 3] 5)) (some ⟨w.heap.size, 0, none⟩) 3 3 [1, 2, 3] 23 HR1.out (Nat.le_refl _))
  have HS2 := Lib.hid (hS.below HB2.out)
  have HSZ := Lib.hid (show (w.alloc (.cells #[.int .u8 1, .int .u8 2, .int .u8 3] 5)).heap.size = w.heap.size + 1 by simp)
  rw [HSZ.out] at HP2
  have HLEN := Lib.hid (show (packB [[1, 2, 3]]).length = 7 by simp [packB, bare_len])
  have HAG := Lib.hid (show aggLen [3] = 7 by decide)
  clear hS HR1
  go_enter Tryd.func8, Tryd.ntmps8
  go_wp2_with (fail)
  refine (pack_any (some ⟨w.heap.size + 1, 0, none⟩) 1 1 [[1, 2, 3]] E _ HP2.out (by omega) HS2.out).mono ?_
  rintro e w3 ⟨v, rfl, hg, -, hB⟩
  obtain ⟨g, cap, rfl, hO⟩ := hg code123
  rw [code123, errV_zero, HLEN.out]
  have HB3 := Lib.hid (HB2.out.trans (hB.mono HB2.out.size))
  clear hg hO hB HB1 HB2 HP2 HS2 HSZ
  have HI := Lib.hid (lit_ints w3 [3] 3 (by intro v hv; simp at hv; omega) (by simp; unfold maxLen; omega))
  have HB4 := Lib.hid (HB3.out.alloc HB3.out.size (.cells #[.int .i64 3] 3))
  go_wp2_with (fail)
  refine (len_any (some ⟨w3.heap.size, 0, none⟩) 1 1 [3] _ HI.out (by intro x hx; simp at hx; omega) (by omega)).mono ?_
  rintro e w' ⟨rfl, rfl⟩
  rw [HAG.out]
  go_wp2
  go_ret
  exact ⟨rfl, HB4.out⟩
end Go.Proofs.YtejdmpdbapfomaaDoor
