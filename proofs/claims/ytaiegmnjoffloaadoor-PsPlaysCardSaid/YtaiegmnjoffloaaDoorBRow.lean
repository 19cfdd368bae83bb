/-
  A ROW OF BYTES (or other integers of one kind) AS A LIST, nil let in: 'RowB k w A n xs': the slice value '.slice A n c' holds the numbers xs. No program is named.
-/
import Derived.Test.YtaiegmnjoffloaaDoorRow
import Derived.BigQuiet
import Derived.Deep.QuietTactic
import Derived.OwnWalk
import Derived.Outline
namespace Go.Proofs.YtaiegmnjoffloaaDoor
open Go.ChangeShapes Go.WideShapes Go.ChangeAt Go.RowKit
set_option linter.unusedVariables false

/-- the slice value '.slice A n c' holds xs. -/
structure RowB (k : IntKind) (w : World) (A : Option Addr) (n : Nat) (xs : List Int) : Prop where
  len : xs.length = n
  le : n ≤ maxLen
  wf : ∀ i, i < n → k.min ≤ xs.getD i 0 ∧ xs.getD i 0 ≤ k.max
  cells : 0 < n → ∃ b off, A = some ⟨b, off, none⟩ ∧ ∀ i, i < n → w.cell? ⟨b, off + i, none⟩ = some (.int k (xs.getD i 0))

theorem wf_range {k : IntKind} {n : Int} (h : (Lit.int k n).wf = true) : k.min ≤ n ∧ n ≤ k.max := by
  simpa [Lit.wf] using h

theorem RowB.of_row {k w a len cap zs} (h : IsRow k w a len cap zs) : RowB k w a len (zs.take len) := by
  have hl := h.len_cap
  refine ⟨by simp; omega, h.len_le, fun i hi => ?_, fun hp => ?_⟩
  · obtain ⟨b, off, _, _, hw⟩ := h.el i hi
    have : (zs.take len).getD i 0 = zs.getD i 0 := by simp [List.getD, hi]
    rw [this]; exact wf_range hw
  · obtain ⟨b, off, rfl, h1⟩ := h.els hp
    refine ⟨b, off, rfl, fun i hi => ?_⟩
    have : (zs.take len).getD i 0 = zs.getD i 0 := by simp [List.getD, hi]
    rw [this]; exact (h1 i hi).1
theorem RowB.el {k w A n xs} (h : RowB k w A n xs) (i : Nat) (hi : i < n) : ∃ b off, A = some ⟨b, off, none⟩ ∧ w.cell? ⟨b, off + i, none⟩ = some (.int k (xs.getD i 0)) := by
  obtain ⟨b, off, e, h1⟩ := h.cells (by omega)
  exact ⟨b, off, e, h1 i hi⟩
theorem cell_lt' {w : World} {p : Addr} {v : Value} (h : w.cell? p = some v) : p.block < w.heap.size := by
  by_cases hp : p.block < w.heap.size
  · exact hp
  · simp [World.cell?, Array.getElem?_eq_none (Nat.le_of_not_lt hp)] at h
theorem RowB.below {k w w' A n xs} (h : RowB k w A n xs) (hb : Below w.heap.size w w') : RowB k w' A n xs :=
  ⟨h.len, h.le, h.wf, fun hp => by
    obtain ⟨b, off, e, h1⟩ := h.cells hp
    exact ⟨b, off, e, fun i hi => (hb.cell (cell_lt' (h1 i hi))).trans (h1 i hi)⟩⟩
theorem RowB.drewN {k w A n xs} (h : RowB k w A n xs) (m : Nat) : RowB k (w.drewN m) A n xs := ⟨h.len, h.le, h.wf, h.cells⟩
/-- its first m. -/
theorem RowB.first {k w A n xs} (h : RowB k w A n xs) (m : Nat) (hm : m ≤ n) : RowB k w A m (xs.take m) := by
  have hl := h.len
  have e : ∀ i, i < m → (xs.take m).getD i 0 = xs.getD i 0 := fun i hi => by simp [List.getD, hi]
  refine ⟨by simp; omega, Nat.le_trans hm h.le, fun i hi => ?_, fun hp => ?_⟩
  · rw [e i hi]; exact h.wf i (by omega)
  · obtain ⟨b, off, rfl, h1⟩ := h.cells (by omega)
    exact ⟨b, off, rfl, fun i hi => by rw [e i hi]; exact h1 i (by omega)⟩
theorem RowB.wf8 {w A n xs} (h : RowB .u8 w A n xs) (i : Nat) (hi : i < n) : 0 ≤ xs.getD i 0 ∧ xs.getD i 0 ≤ 255 := by
  have := h.wf i hi
  simpa [IntKind.min, IntKind.max, IntKind.signed, IntKind.bits] using this
theorem RowB.nil {k w A} : RowB k w A 0 [] := ⟨rfl, by unfold maxLen; omega, fun i hi => by omega, fun h => by omega⟩
end Go.Proofs.YtaiegmnjoffloaaDoor
