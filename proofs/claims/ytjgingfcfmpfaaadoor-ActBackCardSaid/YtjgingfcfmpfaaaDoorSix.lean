/-
  SIX BYTES OF A LIST; a row without its first; a block that stands.
-/
import Derived.Test.YtjgingfcfmpfaaaDoorWholeG
import Derived.Test.YtjgingfcfmpfaaaDoorApp
import Derived.Deep.RegionHeld3
import Derived.Deep.RegionLaw
import Derived.IntWalk
import Derived.ChangeAlike
import Derived.BigRegion
import Derived.LoopTactic
namespace Go.Proofs.YtjgingfcfmpfaaaDoor
open Go.ChangeShapes Go.WideShapes Go.ChangeAt Go.RowKit
set_option linter.unusedVariables false
set_option linter.unusedSimpArgs false

/-- six bytes of a list, from o on. -/
def six (xs : List Int) (o : Nat) : A6 := ⟨xs.getD o 0, xs.getD (o + 1) 0, xs.getD (o + 2) 0, xs.getD (o + 3) 0, xs.getD (o + 4) 0, xs.getD (o + 5) 0⟩
/-- a row without its first k. -/
theorem drop_row {k : IntKind} {w : World} {b off n : Nat} {xs : List Int} (h : RowB k w (some ⟨b, off, none⟩) n xs) (m : Nat) (hm : m ≤ n) : RowB k w (some ⟨b, off + m, none⟩) (n - m) (xs.drop m) := by
  have hl := h.len
  have e : ∀ i, (xs.drop m).getD i 0 = xs.getD (m + i) 0 := fun i => by simp [List.getD]
  refine ⟨by simp; omega, Nat.le_trans (Nat.sub_le _ _) h.le, fun i hi => ?_, fun hp => ⟨b, off + m, rfl, fun i hi => ?_⟩⟩
  · rw [e i]; exact h.wf _ (by omega)
  · obtain ⟨b', off', e', hc⟩ := h.el (m + i) (by omega)
    cases e'
    rw [e i, Nat.add_assoc]; exact hc

theorem OwnB.of_block {w w' : World} {base : Nat} {T : TypeId} {k : IntKind} {g n cap : Nat} {xs : List Int} (h : OwnB w base T k g n cap xs) (hg : w'.heap[g]? = w.heap[g]?) : OwnB w' base T k g n cap xs := by
  refine ⟨h.1, ?_⟩
  rcases h.2 with hn | ⟨g', cap', cur, e, hb', hg', rest⟩
  · exact .inl hn
  · refine .inr ⟨g', cap', cur, e, hb', ?_, rest⟩
    injection e with e
    injection e with e
    injection e with e
    subst e
    rw [hg]; exact hg'
theorem OwnB.base {w : World} {base base' : Nat} {T : TypeId} {k : IntKind} {g n cap : Nat} {xs : List Int} (h : OwnB w base T k g n cap xs) (hb : base' ≤ base) : OwnB w base' T k g n cap xs := by
  refine ⟨h.1, ?_⟩
  rcases h.2 with hn | ⟨g', cap', cur, e, hb', rest⟩
  · exact .inl hn
  · exact .inr ⟨g', cap', cur, e, Nat.le_trans hb hb', rest⟩
theorem six_cells {w : World} {b off n : Nat} {xs : List Int} (h : RowB .u8 w (some ⟨b, off, none⟩) n xs) (o : Nat) (ho : o + 6 ≤ n) :
    ∀ j v, (six xs o).cells.toList[j]? = some v → w.cell? ((⟨b, off + o, none⟩ : Addr).add j) = some v := by
  intro j v hv
  have hj : j < 6 := by have := (List.getElem?_eq_some_iff.1 hv).1; simpa using this
  have hv' : v = .int .u8 (xs.getD (o + j) 0) := by
    match j, hj with
    | 0, _ | 1, _ | 2, _ | 3, _ | 4, _ | 5, _ => simpa [six] using hv.symm
  subst hv'
  rw [Addr.add_mid, Nat.add_assoc]
  obtain ⟨b', off', e', hc⟩ := h.el (o + j) (by omega)
  cases e'
  exact hc
theorem A6.one (a : A6) : ∀ v ∈ a.cells.toList, v.oneCell' = true := by intro v hv; simp at hv; rcases hv with rfl | rfl | rfl | rfl | rfl | rfl <;> rfl
theorem sizeU8 : (Tryd.prog.info? 5).map (·.size) = some 1 := by kernel_rfl
theorem u8all {p : Int → Prop} (h : ∀ n : Nat, n < 256 → p (n : Int)) (v : Int) (h0 : 0 ≤ v) (h1 : v ≤ 255) : p v := by
  obtain ⟨m, rfl⟩ := Int.eq_ofNat_of_zero_le h0
  exact h m (by omega)
theorem src6 {a : A6} {cs : Array Value} {o : Nat} (h : ∀ j, j < 6 → cs[o + j]? = some (.int .u8 (a.l.getD j 0))) : ∀ j u, (a.l.map (Value.int .u8))[j]? = some u → cs[o + j]? = some u := by
  intro j u hu
  have hj : j < 6 := by have := (List.getElem?_eq_some_iff.1 hu).1; simpa [A6.l] using this
  rw [h j hj]
  simp only [List.getElem?_map, Option.map_eq_some_iff] at hu
  obtain ⟨x, hx, rfl⟩ := hu
  simp [List.getD, hx]
theorem six_in {P : Nat → Prop} (h0 : P 0) (h1 : P 1) (h2 : P 2) (h3 : P 3) (h4 : P 4) (h5 : P 5) : ∀ j, j < 6 → P j := by
  intro j hj
  match j, hj with
  | 0, _ => exact h0
  | 1, _ => exact h1
  | 2, _ => exact h2
  | 3, _ => exact h3
  | 4, _ => exact h4
  | 5, _ => exact h5
end Go.Proofs.YtjgingfcfmpfaaaDoor
