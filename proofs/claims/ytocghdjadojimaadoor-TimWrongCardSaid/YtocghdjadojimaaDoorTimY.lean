/-
  A LITERAL SLICE OF INTS AS A ROW; a whole struct as a range; elements of one number, of two.
-/
import Derived.Test.YtocghdjadojimaaDoorTimX
import Derived.Test.YtocghdjadojimaaDoorTimN
namespace Go.Proofs.YtocghdjadojimaaDoor
open Go.ChangeShapes Go.WideShapes Go.ChangeAt Go.RowKit
set_option linter.unusedVariables false
set_option linter.unusedSimpArgs false

theorem block_range {w : World} {g : Nat} {cs : Array Value} {t : TypeId} {fr : Nat × Nat} (hg : w.heap[g]? = some (.cells cs t fr)) : w.rangeAt g 0 cs.toList := fun j v hv => by
  rw [Nat.zero_add, cell_of_row w g j _ _ _ hg]
  simpa using hv
theorem lit_ints (w : World) (ys : List Int) (t : TypeId) (hy : ∀ v ∈ ys, -9223372036854775808 ≤ v ∧ v ≤ 9223372036854775807) (hl : ys.length ≤ maxLen) : RowB .i64 (w.alloc (.cells (ys.map (Value.int .i64)).toArray t)) (some ⟨w.heap.size, 0, none⟩) ys.length ys := by
  refine ⟨rfl, hl, fun i hi => ?_, fun hp => ⟨_, _, rfl, fun i hi => ?_⟩⟩
  · have := hy _ (mem_getD hi)
    simpa [IntKind.min, IntKind.max, IntKind.signed, IntKind.bits] using this
  · rw [Nat.zero_add, World.cell?_alloc_mark]
    simp [List.getD, hi]

/-! ### of one number -/
theorem one_ok {a : Int} (h : 1 ≤ a ∧ a ≤ 2007) : okT ⟨1, 2, false, [a]⟩ = true := by
  unfold okT rises rises
  simp; omega
theorem one_len {a : Int} {D : Nat} (h : 1 ≤ a ∧ a ≤ 2007) (hD : a / 8 % 2 = (D : Int)) : lenB [a] = D + 1 := by
  have e1 : fstB [a] = a / 16 * 2 := rfl
  have e2 : lstB [a] = a / 8 := rfl
  unfold lenB
  rw [e1, e2]; omega
theorem one_fst (a : Int) : (encT ⟨1, 2, false, [a]⟩).getD 4 0 = a / 16 * 2 := by
  rw [(encT_at _).2.2.2.2.1]
  show fstB [a] + 0 = _
  rw [Int.add_zero]; rfl
theorem one_last {a : Int} {D r : Nat} (h : 1 ≤ a ∧ a ≤ 2007) (hD : a / 8 % 2 = (D : Int)) (hr : a % 8 = (r : Int)) : (encT ⟨1, 2, false, [a]⟩).getD (D + 5) 0 = 2 ^ r := by
  rw [encT_part]
  show (partB [a]).getD D 0 = _
  rw [partB_get _ _ (by rw [one_len h hD]; omega)]
  have e1 : fstB [a] = a / 16 * 2 := rfl
  rw [e1, ← byte8_one r (by omega)]
  unfold byteAt
  refine byte8_congr fun k hk => ?_
  rw [Bool.eq_iff_iff]
  simp only [List.mem_singleton, decide_eq_true_eq, beq_iff_eq]
  omega
/-! ### of two -/
theorem two_ok {a b : Int} (h : 1 ≤ a ∧ a < b ∧ b ≤ 2007) : okT ⟨0, 2, false, [a, b]⟩ = true := by
  unfold okT rises rises rises
  simp; omega
theorem two_len {a b : Int} (h : 1 ≤ a ∧ a < b ∧ b ≤ 2007) : (lenB [a, b] : Int) = b / 8 - a / 16 * 2 + 1 := by
  have e1 : fstB [a, b] = a / 16 * 2 := rfl
  have e2 : lstB [a, b] = b / 8 := rfl
  unfold lenB
  rw [e1, e2]; omega
end Go.Proofs.YtocghdjadojimaaDoor
