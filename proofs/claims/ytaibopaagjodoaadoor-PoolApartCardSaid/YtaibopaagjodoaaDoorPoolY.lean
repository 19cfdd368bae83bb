/-
  POOL: maths of numbered packets (PoolLimits): each is there, or was told, once; a row of bools of the call's own.
-/
import Derived.Test.YtaibopaagjodoaaDoorPoolI
namespace Go.Proofs.YtaibopaagjodoaaDoor
open Go.ChangeShapes Go.WideShapes Go.ChangeAt Go.RowKit Go.Deep
set_option linter.unusedVariables false
set_option linter.unusedSimpArgs false

theorem bool_info : (Tryd.prog.info? 4).map (fun i => (i.zero, i.size, i.bytes)) = some (some (.bool false), 1, 1) := by kernel_rfl
theorem size1b : (Tryd.prog.info? 4).map (·.size) = some 1 := by kernel_rfl
/-- bools in a row of cells. -/
def rowT (l : List Bool) : Array Value := (l.map Value.bool).toArray
theorem rowT_size (l : List Bool) : (rowT l).size = l.length := by simp [rowT]
theorem rowT_set (l : List Bool) (i : Nat) (v : Bool) : (rowT l).setIfInBounds i (.bool v) = rowT (l.set i v) := by
  unfold rowT
  rw [List.setIfInBounds_toArray, List.map_set]
theorem rowT_cell {w : World} {g : Nat} {l : List Bool} {t : TypeId} (h : w.heap[g]? = some (.cells (rowT l) t (0, 0))) (i : Nat) (hi : i < l.length) : w.cell? ⟨g, i, none⟩ = some (.bool (l.getD i false)) := by
  have e := (block_range h) i (.bool (l.getD i false)) (by simp [rowT, List.getD, hi])
  simpa using e
theorem made_rowT {w : World} {B g n : Nat} (h : w.ownsRow B 4 1 (.slice (some ⟨g, 0, none⟩) n n) n (madeCells (Value.bool false).cells (n * 1)).toList) : w.heap[g]? = some (.cells (rowT (List.replicate n false)) 4 (0, 0)) := by
  rcases h.2 with ⟨h0, -⟩ | ⟨g', cap, cur, hv, hb, hg, hc, hm, hs, ht⟩
  · cases h0
  · simp only [Value.slice.injEq, Option.some.injEq, Addr.mk.injEq, and_true, true_and] at hv
    obtain ⟨rfl, rfl⟩ := hv
    have e : cur = rowT (List.replicate n false) := by
      apply Array.ext'
      rw [List.take_of_length_le (by rw [Array.length_toList, hs]; exact Nat.le_refl _)] at ht
      rw [ht]
      unfold rowT
      rw [List.map_replicate, Nat.mul_one]
      exact toList_madeCells_one _ _
    rw [← e]; exact hg
/-- L is not told yet, D is; i in all. -/
structure LimI (n i : Nat) (L D : List Pk) (S : List Bool) : Prop where
  ids : ((L ++ D).map (·.id)).Perm ((List.range i).map fun (j : Nat) => ((j : Int) + 1))
  lenS : S.length = n + 1
  seen : ∀ j, j < n + 1 → (S.getD j false = true ↔ (j : Int) ∈ D.map (·.id))
section
variable {n i : Nat} {L L' D : List Pk} {S : List Bool} {p : Pk}
theorem lim_zero (n : Nat) : LimI n 0 [] [] (List.replicate (n + 1) false) := by
  refine ⟨List.Perm.refl _, by simp, fun j hj => ?_⟩
  simp [List.getD, hj]
theorem LimI.perm (h : LimI n i L D S) (hp : L.Perm L') : LimI n i L' D S := ⟨((hp.append_right D).map _).symm.trans h.ids, h.lenS, h.seen⟩
theorem LimI.new (h : LimI n i L D S) (hp : p.id = (i : Int) + 1) : LimI n (i + 1) (p :: L) D S := by
  refine ⟨?_, h.lenS, h.seen⟩
  have h1 := (List.Perm.cons ((i : Int) + 1) h.ids).trans (List.perm_append_singleton _ _).symm
  rw [List.cons_append, List.map_cons, List.range_succ, hp]
  have h2 : ((List.range i ++ [i]).map fun (j : Nat) => ((j : Int) + 1)) = (List.range i).map (fun (j : Nat) => ((j : Int) + 1)) ++ [(i : Int) + 1] := by rw [List.map_append]; rfl
  rw [h2]
  exact h1
theorem LimI.len (h : LimI n i L D S) : L.length + D.length = i := by
  have := h.ids.length_eq
  simpa using this
theorem LimI.at_ (h : LimI n i (p :: L) D S) (hi : i ≤ n) : ∃ q : Nat, p.id = (q : Int) ∧ 1 ≤ q ∧ q ≤ i ∧ S.getD q false = false := by
  have h1 : p.id ∈ (((p :: L) ++ D).map (·.id)) := by simp
  have h2 := h.ids.mem_iff.1 h1
  obtain ⟨j, hj, e⟩ := List.mem_map.1 h2
  have hj' := List.mem_range.1 hj
  refine ⟨j + 1, by rw [← e]; omega, by omega, by omega, ?_⟩
  have hnd : (((p :: L) ++ D).map (·.id)).Nodup := h.ids.nodup_iff.2 (by
    rw [List.nodup_iff_pairwise_ne, List.pairwise_map]
    exact (List.nodup_iff_pairwise_ne.1 List.nodup_range).imp fun h e => h (by omega))
  rw [List.cons_append, List.map_cons, List.nodup_cons] at hnd
  cases hs : S.getD (j + 1) false with
  | false => rfl
  | true =>
    have h3 := (h.seen (j + 1) (by omega)).1 hs
    have e2 : ((j + 1 : Nat) : Int) = p.id := by rw [← e]; omega
    rw [e2] at h3
    exact absurd (by rw [List.map_append]; exact List.mem_append_right _ h3) hnd.1
theorem LimI.mark (h : LimI n i (p :: L) D S) {q : Nat} (hq : p.id = (q : Int)) (hqn : q < n + 1) : LimI n i L (D ++ [p]) (S.set q true) := by
  refine ⟨?_, by rw [List.length_set]; exact h.lenS, fun j hj => ?_⟩
  · refine List.Perm.trans (List.Perm.map _ ?_) h.ids
    rw [← List.append_assoc]
    exact List.perm_append_singleton _ _
  · by_cases e : j = q
    · subst e
      have : (S.set j true).getD j false = true := by simp [List.getD, h.lenS, hj]
      rw [this]
      simp [hq]
    · have e1 : (S.set q true).getD j false = S.getD j false := by
        simp only [List.getD, List.getElem?_set_ne (fun e2 => e e2.symm)]
      rw [e1, h.seen j hj, List.map_append, List.mem_append]
      constructor
      · exact .inl
      · rintro (h1 | h1)
        · exact h1
        · simp [hq] at h1
          omega
end
end Go.Proofs.YtaibopaagjodoaaDoor
