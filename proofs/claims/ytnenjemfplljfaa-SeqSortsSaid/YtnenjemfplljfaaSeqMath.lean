/-
  WHAT seq.Sort ANSWERS, AS A LIST, and what follows: a permutation of the numbers modulo 4096, rising by their distance; sorted again it is the same. No walk.
-/
import Derived.Test.YtnenjemfplljfaaSeqC
namespace Go.Proofs.Ytnenjemfplljfaa

def leI (x y : Int) : Bool := decide (x ≤ y)
def dists (start : Int) (l : List Int) : List Int := l.map fun n => rd (n - start)
def sortedBy (start : Int) (l : List Int) : List Int := ((dists start l).mergeSort leI).map fun d => rd (start + d)

theorem rd_back1 (s n : Int) : rd (s + rd (n - s)) = rd n := by unfold rd; omega
theorem rd_forth (s d : Int) (h0 : 0 ≤ d) (h1 : d ≤ 4095) : rd (rd (s + d) - s) = d := by unfold rd; omega

theorem mem_dists {s : Int} {l : List Int} {d : Int} (h : d ∈ (dists s l).mergeSort leI) : 0 ≤ d ∧ d ≤ 4095 := by
  rw [List.mem_mergeSort] at h
  obtain ⟨n, _, rfl⟩ := List.mem_map.1 h
  exact ⟨rd_lo _, rd_hi _⟩
theorem length_dists (s : Int) (l : List Int) : (dists s l).length = l.length := by simp [dists]
theorem length_sortedBy (s : Int) (l : List Int) : (sortedBy s l).length = l.length := by simp [sortedBy, dists]
theorem perm_sortedBy (s : Int) (l : List Int) : (sortedBy s l).Perm (l.map rd) := by
  have h := (List.mergeSort_perm (dists s l) leI).map (fun d => rd (s + d))
  have e : (dists s l).map (fun d => rd (s + d)) = l.map rd := by
    simp only [dists, List.map_map]
    exact List.map_congr_left fun n _ => rd_back1 s n
  rw [e] at h
  exact h
theorem pairwise_dists (s : Int) (l : List Int) : ((dists s l).mergeSort leI).Pairwise (fun a b => leI a b = true) :=
  List.pairwise_mergeSort (fun a b c h1 h2 => by simp [leI] at *; omega) (fun a b => by simp [leI]; omega) _
theorem dists_sortedBy (s : Int) (l : List Int) : dists s (sortedBy s l) = (dists s l).mergeSort leI := by
  conv => rhs; rw [← List.map_id ((dists s l).mergeSort leI)]
  simp only [dists, sortedBy, List.map_map]
  exact List.map_congr_left fun d hd => rd_forth s d (mem_dists hd).1 (mem_dists hd).2
theorem sortedBy_again (s : Int) (l : List Int) : sortedBy s (sortedBy s l) = sortedBy s l := by
  show ((dists s (sortedBy s l)).mergeSort leI).map _ = _
  rw [dists_sortedBy, List.mergeSort_of_pairwise (pairwise_dists s l)]
  rfl
theorem getD_map (f : Int → Int) (l : List Int) (i : Nat) (hi : i < l.length) : (l.map f).getD i 0 = f (l.getD i 0) := by
  simp [List.getD, hi]
theorem sortedBy_rises (s : Int) (l : List Int) (i : Nat) (hi : i + 1 < l.length) : rd ((sortedBy s l).getD i 0 - s) ≤ rd ((sortedBy s l).getD (i + 1) 0 - s) := by
  have hp := pairwise_dists s l
  have hl : ((dists s l).mergeSort leI).length = l.length := by simp [dists]
  have h := List.pairwise_iff_getElem.1 hp i (i + 1) (by omega) (by omega) (by omega)
  have e : ∀ j, j < l.length → rd ((sortedBy s l).getD j 0 - s) = ((dists s l).mergeSort leI).getD j 0 := by
    intro j hj
    rw [← dists_sortedBy]
    unfold dists
    rw [getD_map _ _ _ (by rw [length_sortedBy]; exact hj)]
  rw [e i (by omega), e (i + 1) hi]
  simp only [leI, decide_eq_true_eq] at h
  simpa [List.getD, hl, show i < l.length by omega, hi] using h
theorem mem_getD' {l : List Int} {i : Nat} (h : i < l.length) : l.getD i 0 ∈ l := by
  have : l.getD i 0 = l[i] := by simp [List.getD, h]
  rw [this]; exact List.getElem_mem h
theorem sortedBy_range (s : Int) (l : List Int) (i : Nat) (hi : i < l.length) : 0 ≤ (sortedBy s l).getD i 0 ∧ (sortedBy s l).getD i 0 ≤ 4095 := by
  have h : (sortedBy s l).getD i 0 ∈ sortedBy s l := mem_getD' (by rw [length_sortedBy]; exact hi)
  obtain ⟨d, _, e⟩ := List.mem_map.1 h
  rw [← e]
  exact ⟨rd_lo _, rd_hi _⟩
theorem wf_small (n : Int) (h0 : 0 ≤ n) (h1 : n ≤ 4095) : (Lit.int .i64 n).wf = true := by
  simp [Lit.wf, IntKind.min, IntKind.max, IntKind.signed, IntKind.bits]; omega
theorem sortedBy_wf (s : Int) (l : List Int) : ∀ n ∈ sortedBy s l, (Lit.int .i64 n).wf = true := by
  intro n h
  obtain ⟨d, _, e⟩ := List.mem_map.1 h
  rw [← e]
  exact wf_small _ (rd_lo _) (rd_hi _)

/-! counts and sums -/
def cnt (l : List Int) (v : Int) : Int := (l.filter (· == v)).length
theorem cnt_perm {l l' : List Int} (h : l.Perm l') (v : Int) : cnt l v = cnt l' v := by
  unfold cnt; rw [(h.filter _).length_eq]
theorem cnt_lo (l : List Int) (v : Int) : 0 ≤ cnt l v := by unfold cnt; omega
theorem cnt_hi (l : List Int) (v : Int) : cnt l v ≤ l.length := by
  unfold cnt
  have := List.length_filter_le (fun x => x == v) l
  omega
theorem take_succ_getD (l : List Int) (k : Nat) (h : k < l.length) : l.take (k + 1) = l.take k ++ [l.getD k 0] := by
  rw [List.take_succ_eq_append_getElem h]; simp [List.getD, h]
theorem cnt_step (l : List Int) (k : Nat) (v : Int) (h : k < l.length) : cnt (l.take (k + 1)) v = cnt (l.take k) v + if l.getD k 0 == v then 1 else 0 := by
  unfold cnt
  rw [take_succ_getD l k h, List.filter_append]
  generalize l.getD k 0 = x
  by_cases hx : x = v <;> simp [hx]
theorem sum_step (l : List Int) (k : Nat) (h : k < l.length) : (l.take (k + 1)).sum = (l.take k).sum + l.getD k 0 := by
  rw [take_succ_getD l k h]; simp
theorem sum_perm {l l' : List Int} (h : l.Perm l') : l.sum = l'.sum := by
  induction h with
  | nil => rfl
  | cons x _ ih => simp [ih]
  | swap x y l => simp; omega
  | trans _ _ a b => exact a.trans b
theorem rd_sum (a b s n : Int) : rd (rd (a - b) + (s - rd n)) = rd ((a + s) - (b + rd n)) := by unfold rd; omega
end Go.Proofs.Ytnenjemfplljfaa
