/-
  A ROW OF STRUCTS AS A LIST: F says of each one its cells, sz of them: one that is known; one of the call's own that grows by append. No program is named.
-/
import Derived.Test.YtaiegmnjoffloaaDoorPlain
import Derived.Deep.Slices
import Derived.Deep.AppendLies
import Derived.Deep.MidRow
import Derived.Laws.OwnMore
namespace Go.Proofs.YtaiegmnjoffloaaDoor
open Go.ChangeShapes Go.WideShapes Go.ChangeAt Go.RowKit Go.Deep
set_option linter.unusedVariables false
set_option linter.unusedSimpArgs false

/-- the slice value '.slice A n c' holds the structs l. -/
structure RowS {α : Type} (F : α → List Value) (sz : Nat) (d : α) (w : World) (A : Option Addr) (n : Nat) (l : List α) : Prop where
  len : l.length = n
  le : n ≤ maxLen
  els : 0 < n → ∃ b off, A = some ⟨b, off, none⟩ ∧ ∀ i, i < n → w.rangeAt b (off + i * sz) (F (l.getD i d))
/-- the same, of the call's own: the row grows by append. -/
def OwnS {α : Type} (F : α → List Value) (sz : Nat) (w : World) (base : Nat) (e : TypeId) (v : Value) (n : Nat) (l : List α) : Prop := w.ownsRow base e sz v n (l.flatMap F) ∧ l.length = n
theorem range_below {B : Nat} {w w' : World} {b o : Nat} {cs : List Value} (h : w.rangeAt b o cs) (hb : Below w.heap.size w w') : w'.rangeAt b o cs :=
  fun j v hv => (hb.cell (cell_lt' (h j v hv))).trans (h j v hv)
section
variable {α : Type} {F : α → List Value} {sz : Nat} {d : α} {w w' : World} {A : Option Addr} {n : Nat} {l : List α}
theorem RowS.nil : RowS F sz d w A 0 [] := ⟨rfl, by unfold maxLen; omega, fun h => by omega⟩
theorem RowS.el (h : RowS F sz d w A n l) (i : Nat) (hi : i < n) : ∃ b off, A = some ⟨b, off, none⟩ ∧ w.rangeAt b (off + i * sz) (F (l.getD i d)) := by
  obtain ⟨b, off, e, h1⟩ := h.els (by omega)
  exact ⟨b, off, e, h1 i hi⟩
theorem RowS.below (h : RowS F sz d w A n l) (hb : Below w.heap.size w w') : RowS F sz d w' A n l :=
  ⟨h.len, h.le, fun hp => by
    obtain ⟨b, off, e, h1⟩ := h.els hp
    exact ⟨b, off, e, fun i hi => range_below (B := w.heap.size) (h1 i hi) hb⟩⟩
theorem RowS.drewN (h : RowS F sz d w A n l) (m : Nat) : RowS F sz d (w.drewN m) A n l := ⟨h.len, h.le, h.els⟩
/-- its first m. -/
theorem RowS.first (h : RowS F sz d w A n l) (m : Nat) (hm : m ≤ n) : RowS F sz d w A m (l.take m) := by
  have hl := h.len
  refine ⟨by simp; omega, Nat.le_trans hm h.le, fun hp => ?_⟩
  obtain ⟨b, off, e, h1⟩ := h.els (by omega)
  refine ⟨b, off, e, fun i hi => ?_⟩
  have hg : (l.take m).getD i d = l.getD i d := by simp [List.getD, hi]
  rw [hg]
  exact h1 i (by omega)
/-- of one element, one cell. -/
theorem range_cell {b o : Nat} {cs : List Value} (h : w.rangeAt b o cs) (j : Nat) (v : Value) (hv : cs[j]? = some v) : w.cell? ⟨b, o + j, none⟩ = some v := h j v hv
theorem flat_at (hF : ∀ a, (F a).length = sz) : ∀ (l : List α) (i j : Nat), i < l.length → j < sz → (l.flatMap F)[i * sz + j]? = (F (l.getD i d))[j]?
  | [], i, j, hi, hj => by simp at hi
  | a :: r, 0, j, hi, hj => by
    rw [List.flatMap_cons, Nat.zero_mul, Nat.zero_add, List.getElem?_append_left (by rw [hF]; exact hj)]
    rfl
  | a :: r, i + 1, j, hi, hj => by
    have h1 := flat_at hF r i j (by simpa using hi) hj
    rw [List.flatMap_cons, List.getElem?_append_right (by rw [hF, Nat.succ_mul]; omega), hF, show (i + 1) * sz + j - sz = i * sz + j by rw [Nat.succ_mul]; omega, h1]
    rfl
theorem OwnS.nil (w : World) (base : Nat) (e : TypeId) : OwnS F sz w base e (.slice none 0 0) 0 [] := ⟨World.ownsRow_nil w base e sz, rfl⟩
theorem OwnS.below {base : Nat} {e : TypeId} {v : Value} (h : OwnS F sz w base e v n l) (hb : Below w.heap.size w w') : OwnS F sz w' base e v n l := by
  refine ⟨⟨h.1.1, ?_⟩, h.2⟩
  rcases h.1.2 with hn | ⟨g, cap, cur, hv, hb', hg, rest⟩
  · exact .inl hn
  · refine .inr ⟨g, cap, cur, hv, hb', (hb.block g ?_).trans hg, rest⟩
    by_cases hp : g < w.heap.size
    · exact hp
    · rw [Array.getElem?_eq_none (Nat.le_of_not_lt hp)] at hg; cases hg
theorem OwnS.drewN {base : Nat} {e : TypeId} {v : Value} (h : OwnS F sz w base e v n l) (m : Nat) : OwnS F sz (w.drewN m) base e v n l := h.below (below_drewN (Below.refl _ _) m)
/-- as a row. -/
theorem OwnS.row {base : Nat} {e : TypeId} {v : Value} (h : OwnS F sz w base e v n l) (hF : ∀ a, (F a).length = sz) (hn : n ≤ maxLen) : ∃ A c, v = .slice A n c ∧ RowS F sz d w A n l ∧ n ≤ c := by
  obtain ⟨ho, hl⟩ := h
  rcases ho.2 with ⟨rfl, h0⟩ | ⟨g, cap, cur, rfl, hb, hg, hnc, hc, hs, ht⟩
  · subst h0
    exact ⟨none, 0, rfl, ⟨hl, hn, fun h => by omega⟩, Nat.le_refl _⟩
  · refine ⟨some ⟨g, 0, none⟩, cap, rfl, ⟨hl, hn, fun hp => ⟨g, 0, rfl, fun i hi j v hv => ?_⟩⟩, hnc⟩
    have hj : j < sz := by
      have h1 := (List.getElem?_eq_some_iff.1 hv).1
      rw [hF] at h1
      exact h1
    have hlt : i * sz + j < n * sz := by
      have h1 : (i + 1) * sz ≤ n * sz := Nat.mul_le_mul_right _ hi
      rw [Nat.succ_mul] at h1
      omega
    rw [Nat.zero_add, World.ownsRow.cellAt ho (i * sz + j) hlt, flat_at (d := d) hF l i j (by omega) hj]
    exact hv
/-- one more. -/
theorem app_s {P : Program} {ops : Array Oper} {rest : List Oper} {o : Oper} {a : Act} {Q : Exit → Act → World → Prop} (hgd : o.guard = none) (s x : Operand) (t : TypeId)
    (ho : o.op = .call { callee := .builtin .append, args := #[s, x], argTypes := #[t, t] }) (e : TypeId) (i : TypeInfo) (z : Value) (bytes : Nat) (ht : P.underlying t = some (.slice e)) (hi : P.info? e = some i) (hz : i.zero = some z) (hsize : i.size = sz) (hby : i.bytes = bytes) (hzs : z.cells.size = sz) (hsz : 0 < sz)
    (B k : Nat) (lv : Value) (l : List α) (hs : a.eval s = lv) (hP : OwnS F sz w B e lv k l) (u : α) (ad : Addr) (c : Nat) (hx : a.eval x = .slice (some ad) 1 c) (hF : (F u).length = sz) (hc : ∀ j v, (F u)[j]? = some v → w.cell? (ad.add j) = some v) (h1 : ∀ v ∈ F u, v.oneCell' = true)
    (hk : k + 1 ≤ 1000000000) (hbt : (k + 1) * bytes ≤ 140737488355328) (hB : B ≤ w.heap.size)
    (h : ∀ g' cap' w', Hid (OwnS F sz w' B e (.slice (some ⟨g', 0, none⟩) (k + 1) cap') (k + 1) (l ++ [u])) → Hid (Below B w w') → wpList P ops Q rest (a.put o.dst (.slice (some ⟨g', 0, none⟩) (k + 1) cap')) w') : wpList P ops Q (o :: rest) a w := by
  refine wpList_append_lies w hgd s x t ho B e i z sz bytes ht hi hz hsize hby hzs hsz lv k _ hs hP.1 ad 1 c (F u) hx (by rw [hF, Nat.one_mul]) hc h1 (by omega) (by unfold maxLen; omega) hbt hB w.heap.size rfl ?_
  intro g cap w' hown hgrow hor hlt
  refine h g cap w' ⟨?_, by simp [hP.2]⟩ ((Below.refl B w).grown hgrow hB (by intro q hq; exact (World.ownsRow.lt hP.1 q hq).1))
  rw [List.flatMap_append]
  simpa using hown
end
end Go.Proofs.YtaiegmnjoffloaaDoor
