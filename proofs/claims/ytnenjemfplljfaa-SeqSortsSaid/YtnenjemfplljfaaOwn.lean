/-
  A ROW OF INTEGERS THAT THE CALL ITSELF MADE, known whole: 'Own w e g xs': block g holds just xs. What loads, stores, the sort make of it. No program is named.
-/
import Derived.Test.YtnenjemfplljfaaRow
import Derived.OwnWalk
import Derived.Sort.Grow
import Derived.Deep.QuietTactic
namespace Go.Proofs.Ytnenjemfplljfaa
open Go.ChangeShapes Go.WideShapes Go.ChangeAt Go.RowKit
set_option linter.unusedVariables false

def Own (w : World) (e : TypeId) (g : Nat) (xs : List Int) : Prop := w.heap[g]? = some (.cells (xs.map (Value.int .i64)).toArray e (0, 0))

theorem Own.lt {w e g xs} (h : Own w e g xs) : g < w.heap.size := (Array.getElem?_eq_some_iff.1 h).1
theorem Own.cell {w e g xs} (h : Own w e g xs) (j : Nat) (hj : j < xs.length) : w.cell? ⟨g, j, none⟩ = some (.int .i64 (xs.getD j 0)) := by
  unfold Own at h
  simp [World.cell?, h, hj]
theorem Own.frozen {w e g xs} (h : Own w e g xs) (j : Nat) : w.frozen? ⟨g, j, none⟩ = false := by
  unfold Own at h
  simp [World.frozen?, h]
theorem Own.drew {w e g xs} (h : Own w e g xs) : Own w.drew e g xs := h
theorem Own.drewN {w e g xs} (h : Own w e g xs) (n : Nat) : Own (w.drewN n) e g xs := h
theorem Own.set {w e g xs} (h : Own w e g xs) (j : Nat) (v : Int) : Own (w.setCell ⟨g, j, none⟩ (.int .i64 v)) e g (xs.set j v) := by
  unfold Own at h ⊢
  rw [Go.Sort.setCell_eq]
  simp only [Go.Sort.mapBlock, Array.getElem?_modify, h, if_true, Option.map_some, Go.Sort.onCells]
  congr 2
  apply Array.ext_getElem?
  intro k
  simp [List.getElem?_set]
theorem Own.of_row {w : World} {e : TypeId} {g n : Nat} {base : Nat} {xs : List Int} (h : w.ownsRow base e 1 (.slice (some ⟨g, 0, none⟩) n n) n (xs.map (Value.int .i64))) : Own w e g xs := by
  unfold Own
  rcases h.2 with ⟨h', _⟩ | ⟨g', cap', cur, h', hb, hg, hn, hc, hs, ht⟩
  · simp at h'
  · simp only [Value.slice.injEq, Option.some.injEq, Addr.mk.injEq, and_true, true_and] at h'
    obtain ⟨rfl, rfl⟩ := h'
    rw [hg, ← ht, List.take_of_length_le (by simp [hs])]
theorem Own.holds {w e g xs} (h : Own w e g xs) : Go.Sort.Holds (Value.int .i64) w g 0 xs.toArray := by
  intro j hj
  have hj' : j < xs.length := by simpa using hj
  refine ⟨?_, h.frozen _⟩
  rw [Nat.zero_add, h.cell j hj']
  simp [List.getD, hj']
theorem Own.sorted {w e g xs} (h : Own w e g xs) (ts : List Int) (hl : ts.length = xs.length) (n : Nat) (os : Array Obj) :
    Own (Go.Sort.grow (Go.Sort.putRow (Value.int .i64) (Go.Sort.ahead w n) g 0 ts.toArray) os) e g ts := by
  have hg := h.lt
  unfold Own at h ⊢
  rw [Go.Sort.heap_grow_old _ _ (by simpa using hg)]
  simp only [Go.Sort.putRow, Go.Sort.mapBlock, Go.Sort.heap_ahead, Array.getElem?_modify, h, if_true, Option.map_some, Go.Sort.onCells]
  congr 2
  apply Array.ext_getElem?
  intro k
  by_cases hk : k < xs.length
  · simp [Go.Sort.putCells, hk, hl]
  · simp [Go.Sort.putCells, hk, hl]
theorem below_sorted {B : Nat} {w0 w : World} (hb : Below B w0 w) {g : Nat} (hg : B ≤ g) (hgl : g < w.heap.size) (ts : List Int) (n : Nat) (os : Array Obj) (hB : B ≤ w.heap.size) :
    Below B w0 (Go.Sort.grow (Go.Sort.putRow (Value.int .i64) (Go.Sort.ahead w n) g 0 ts.toArray) os) := by
  refine hb.trans ⟨rfl, rfl, rfl, by simp, fun k hk => ?_⟩
  rw [Go.Sort.heap_grow_old _ _ (by simp; omega)]
  have : g ≠ k := by omega
  simp [Go.Sort.putRow, Go.Sort.mapBlock, Go.Sort.ahead, Array.getElem?_modify, this]
/-- what is owned stays so behind what changes lower blocks only .. -/
theorem Own.isRow {w e g xs} (h : Own w e g xs) (hm : xs.length ≤ maxLen) (hw : ∀ n ∈ xs, (Lit.int .i64 n).wf = true) : IsRow .i64 w (some ⟨g, 0, none⟩) xs.length xs.length xs := by
  refine .inr ⟨_, rfl, Nat.le_refl _, hm, rfl, fun i hi => ?_, hw⟩
  have := h.cell i hi
  by_cases h0 : i = 0
  · subst h0; simpa [Addr.add] using this
  · simpa [Addr.add, h0] using this
theorem cell_lt {w : World} {p : Addr} {v : Value} (h : w.cell? p = some v) : p.block < w.heap.size := by
  by_cases hp : p.block < w.heap.size
  · exact hp
  · simp [World.cell?, Array.getElem?_eq_none (Nat.le_of_not_lt hp)] at h
/-- a row that came in reads the same behind what changes nothing below. -/
theorem IsRow.below {k w w' a len cap zs} (h : IsRow k w a len cap zs) (hb : Below w.heap.size w w') : IsRow k w' a len cap zs := by
  rcases h with ⟨rfl, rfl, rfl, rfl⟩ | ⟨x, rfl, hl, hm, hz, hcell, hwz⟩
  · exact .inl ⟨rfl, rfl, rfl, rfl⟩
  · refine .inr ⟨x, rfl, hl, hm, hz, fun i hi => ?_, hwz⟩
    have hc := hcell i hi
    rw [hb.cell (cell_lt hc)]
    exact hc
end Go.Proofs.Ytnenjemfplljfaa
