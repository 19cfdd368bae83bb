/-
  AN ARRAY OF STRUCTS INSIDE A BLOCK, BY A FUNCTION OF THE INDEX: its cells, one of them stored anew, a whole struct read and stored. No program is named.
-/
import Derived.Test.YtaiegmnjoffloaaDoorTailR
import Derived.Test.YtaiegmnjoffloaaDoorHeldD
import Derived.Test.YtaiegmnjoffloaaDoorPlainB
namespace Go.Proofs.YtaiegmnjoffloaaDoor
open Go.ChangeShapes Go.WideShapes Go.ChangeAt Go.RowKit Go.Deep
set_option linter.unusedVariables false
set_option linter.unusedSimpArgs false

section
variable {α : Type} {F : α → List Value} {sz : Nat}
def arrF (F : α → List Value) (n : Nat) (x : Nat → α) : List Value := (List.range n).flatMap fun k => F (x k)
def updF (x : Nat → α) (a : Nat) (v : α) (k : Nat) : α := if k = a then v else x k
theorem updF_same (x : Nat → α) (a : Nat) (v : α) : updF x a v a = v := if_pos rfl
theorem updF_ne {x : Nat → α} {a k : Nat} {v : α} (h : k ≠ a) : updF x a v k = x k := if_neg h
theorem flatL_len {β : Type} {f : β → List Value} : ∀ (l : List β), (∀ b ∈ l, (f b).length = sz) → (l.flatMap f).length = l.length * sz
  | [], _ => by simp
  | b :: r, h => by
    rw [List.flatMap_cons, List.length_append, h b List.mem_cons_self, flatL_len r fun c hc => h c (List.mem_cons_of_mem _ hc), List.length_cons, Nat.succ_mul, Nat.add_comm]
theorem arrF_len (hF : ∀ a, (F a).length = sz) (n : Nat) (x : Nat → α) : (arrF F n x).length = n * sz := by
  unfold arrF
  rw [flatL_len (sz := sz) _ fun k _ => hF _, List.length_range]
theorem arrF_congr {n : Nat} {x y : Nat → α} (h : ∀ k, k < n → x k = y k) : arrF F n x = arrF F n y := by
  unfold arrF
  rw [List.flatMap_def, List.flatMap_def]
  congr 1
  exact List.map_congr_left fun k hk => by rw [h k (List.mem_range.1 hk)]
/-- the array about the struct at k. -/
theorem arrF_cut (hF : ∀ a, (F a).length = sz) {n : Nat} (x : Nat → α) {k : Nat} (hk : k < n) : ∃ pre post : List Value, pre.length = k * sz ∧ post.length = (n - k - 1) * sz ∧ arrF F n x = pre ++ F (x k) ++ post ∧ ∀ v, pre ++ F v ++ post = arrF F n (updF x k v) := by
  have hr : List.range n = List.range k ++ k :: (List.range (n - k - 1)).map (· + (k + 1)) := by
    have h1 : n = k + (1 + (n - k - 1)) := by omega
    have h2 : List.range n = List.range k ++ (List.range (1 + (n - k - 1))).map (k + ·) := by
      conv => lhs; rw [h1]
      exact List.range_add
    rw [h2]
    congr 1
    rw [show 1 + (n - k - 1) = (n - k - 1) + 1 by omega, List.range_succ_eq_map, List.map_cons, List.map_map]
    congr 1
    exact List.map_congr_left fun j _ => by show k + (j + 1) = j + (k + 1); omega
  refine ⟨(List.range k).flatMap fun j => F (x j), ((List.range (n - k - 1)).map (· + (k + 1))).flatMap fun j => F (x j), ?_, ?_, ?_, fun v => ?_⟩
  · rw [flatL_len (sz := sz) _ fun j _ => hF _, List.length_range]
  · rw [flatL_len (sz := sz) _ fun j _ => hF _, List.length_map, List.length_range]
  · unfold arrF
    rw [hr, List.flatMap_append, List.flatMap_cons, List.append_assoc]
  · unfold arrF
    rw [hr, List.flatMap_append, List.flatMap_cons, List.append_assoc, updF_same]
    have e1 : ((List.range k).flatMap fun j => F (updF x k v j)) = (List.range k).flatMap fun j => F (x j) := by
      rw [List.flatMap_def, List.flatMap_def]
      congr 1
      exact List.map_congr_left fun j hj => by rw [updF_ne (by have := List.mem_range.1 hj; omega)]
    have e2 : (((List.range (n - k - 1)).map (· + (k + 1))).flatMap fun j => F (updF x k v j)) = ((List.range (n - k - 1)).map (· + (k + 1))).flatMap fun j => F (x j) := by
      rw [List.flatMap_def, List.flatMap_def]
      congr 1
      refine List.map_congr_left fun j hj => ?_
      obtain ⟨i, -, rfl⟩ := List.mem_map.1 hj
      rw [updF_ne (by omega)]
    rw [e1, e2]
/-! ### inside a block: p ahead of it, q behind it -/
variable {w : World} {g n k : Nat} {T : TypeId} {x : Nat → α} {p q : List Value}
theorem arr_cell (hF : ∀ a, (F a).length = sz) (h : w.heap[g]? = some (.cells (p ++ arrF F n x ++ q).toArray T (0, 0))) (hk : k < n) {j : Nat} {v : Value} (hv : (F (x k))[j]? = some v) : w.cell? ⟨g, p.length + k * sz + j, none⟩ = some v := by
  obtain ⟨pre, post, h1, -, h2, -⟩ := arrF_cut hF x hk
  have hj : j < (F (x k)).length := (List.getElem?_eq_some_iff.1 hv).1
  rw [cell_of_row w g _ _ T (0, 0) h, List.getElem?_toArray, h2, List.append_assoc, List.getElem?_append_right (by omega), show p.length + k * sz + j - p.length = k * sz + j by omega]
  rw [List.append_assoc, List.append_assoc, List.getElem?_append_right (by omega), h1, show k * sz + j - k * sz = j by omega, List.getElem?_append_left hj]
  exact hv
theorem arr_range (hF : ∀ a, (F a).length = sz) (h : w.heap[g]? = some (.cells (p ++ arrF F n x ++ q).toArray T (0, 0))) (hk : k < n) : w.rangeAt g (p.length + k * sz) (F (x k)) := fun j v hv => arr_cell hF h hk hv
/-- the block about the struct at k: for a store of it whole. -/
theorem arr_part (hF : ∀ a, (F a).length = sz) (x : Nat → α) (p q : List Value) (hk : k < n) : ∃ pre post : List Value, pre.length = p.length + k * sz ∧ p ++ arrF F n x ++ q = pre ++ F (x k) ++ post ∧ ∀ v, pre ++ F v ++ post = p ++ arrF F n (updF x k v) ++ q := by
  obtain ⟨pre, post, h1, -, h2, h3⟩ := arrF_cut hF x hk
  refine ⟨p ++ pre, post ++ q, by rw [List.length_append, h1], by rw [h2]; simp, fun v => by rw [← h3]; simp⟩
/-- one cell of the struct at k stored anew. -/
theorem arr_set (hF : ∀ a, (F a).length = sz) (x : Nat → α) (p q : List Value) (hk : k < n) {j : Nat} (hj : j < sz) {u : α} {v : Value} (hu : F u = (F (x k)).set j v) : (p ++ arrF F n x ++ q).toArray.setIfInBounds (p.length + k * sz + j) v = (p ++ arrF F n (updF x k u) ++ q).toArray := by
  obtain ⟨pre, post, h1, -, h2, h3⟩ := arrF_cut hF x hk
  rw [List.setIfInBounds_toArray, h2, ← h3, hu]
  congr 1
  have e : p ++ (pre ++ F (x k) ++ post) ++ q = p ++ (pre ++ (F (x k) ++ (post ++ q))) := by simp
  rw [e, List.set_append_right _ _ (by omega), show p.length + k * sz + j - p.length = k * sz + j by omega, List.set_append_right _ _ (by omega), h1, show k * sz + j - k * sz = j by omega, List.set_append_left _ _ (by rw [hF]; exact hj)]
  simp
theorem arr_lt (hF : ∀ a, (F a).length = sz) (x : Nat → α) (p q : List Value) (hk : k < n) {j : Nat} (hj : j < sz) : p.length + k * sz + j < (p ++ arrF F n x ++ q).toArray.size := by
  have h1 : (k + 1) * sz ≤ n * sz := Nat.mul_le_mul_right _ hk
  rw [Nat.succ_mul] at h1
  rw [List.size_toArray, List.length_append, List.length_append, arrF_len hF]
  omega
end
end Go.Proofs.YtaiegmnjoffloaaDoor
