/-
  MATHS OF A SESSION: its frames and its window side by side: what is out in the window are the frames' numbers, in their order. No program is named.
-/
import Derived.Test.YtlbfioknkagboaaDoorSessL
namespace Go.Proofs.YtlbfioknkagboaaDoor
set_option linter.unusedVariables false
set_option linter.unusedSimpArgs false

structure InvX (x : Wo) (l : List Fm) : Prop where
  inv : InvW x
  out : outW x = nums l
section
variable {x : Wo} {l : List Fm} {f : Fm}
theorem InvX.d64 (h : InvX x l) : ∀ d ∈ x.ds, d < 64 := fun d hd => by have := h.inv.lt d hd; have := h.inv.gv; have := h.inv.sz; omega
theorem InvX.nodup (h : InvX x l) : (nums l).Nodup := by
  rw [← h.out]
  unfold outW
  show List.Pairwise _ _
  rw [List.pairwise_map]
  refine h.inv.up.imp_of_mem fun {a b} ha hb hab e => ?_
  have := nm_inj (w := x) (by have := h.d64 a ha; omega) (by have := h.d64 b hb; omega) e
  omega
theorem InvX.at_ (h : InvX x l) (hf : f ∈ l) : ∃ d ∈ x.ds, nmW x d = f.1.seq := by
  have h1 : f.1.seq ∈ outW x := by rw [h.out]; exact mem_nums hf
  exact List.mem_map.1 h1
theorem InvX.lt (h : InvX x l) (hf : f ∈ l) : f.1.seq < 4096 := by
  obtain ⟨d, -, e⟩ := h.at_ hf
  rw [← e]; exact nm_lt _ _
theorem InvX.len (h : InvX x l) : l.length = x.ds.length := by
  have := congrArg List.length h.out
  unfold outW nums at this
  simpa using this.symm
theorem InvX.le (h : InvX x l) : l.length ≤ x.gv ∧ x.gv ≤ 64 := by
  have := out_len h.inv
  have := h.len
  have := h.inv.gv
  have := h.inv.sz
  omega
theorem InvX.new {st sz : Nat} (h : st < 4096) (h1 : 1 ≤ sz) (h2 : sz ≤ 64) : InvX (newW st sz) [] := ⟨inv_new h h1 h2, rfl⟩
theorem InvX.next (h : InvX x l) (hg : x.gv < x.sz) (hf : f.1.seq = nmW x x.gv) : InvX (nextW x) (l ++ [f]) := by
  refine ⟨inv_next h.inv hg, ?_⟩
  have e : outW (nextW x) = outW x ++ [nmW x x.gv] := by unfold outW nextW; rw [List.map_append]; rfl
  rw [e, h.out, ← hf]
  unfold nums
  simp
theorem InvX.same (h : InvX x l) {l' : List Fm} (hn : nums l' = nums l) : InvX x l' := ⟨h.inv, by rw [hn]; exact h.out⟩
theorem InvX.done (h : InvX x l) (hf : f ∈ l) : ∃ d, d ∈ x.ds ∧ nmW x d = f.1.seq ∧ InvX (doneW x d) (l.filter fun g => g.1.seq != f.1.seq) ∧ (doneW x d).sz = x.sz ∧ nmW (doneW x d) (doneW x d).gv = nmW x x.gv := by
  obtain ⟨d, hd, e⟩ := h.at_ hf
  refine ⟨d, hd, e, ⟨inv_done h.inv d, ?_⟩, rfl, ?_⟩
  · rw [out_done h.inv]
    have e1 : (x.ds.filter fun k => k != d).map (nmW x) = (outW x).filter fun k => k != f.1.seq := by
      unfold outW
      rw [List.filter_map]
      congr 1
      refine List.filter_congr fun k hk => ?_
      show (k != d) = (nmW x k != f.1.seq)
      rw [← e]
      have hk := h.d64 k hk
      have hd := h.d64 d hd
      by_cases hkd : k = d
      · subst hkd; simp
      · have : nmW x k ≠ nmW x d := fun ee => hkd (nm_inj (w := x) (by omega) (by omega) ee)
        rw [show (k != d) = true from bne_iff_ne.2 hkd, show (nmW x k != nmW x d) = true from bne_iff_ne.2 this]
    rw [e1, h.out]
    unfold nums
    rw [List.filter_map]
    rfl
  · have hf1 := front_le (w := x) (filter_up h.inv.up d) fun k hk => h.inv.lt k (List.mem_filter.1 hk).1
    have h1 := h.inv.st
    have h2 := hf1.1
    have h3 := h.inv.gv
    have h4 := h.inv.sz
    show (((x.st + frontW x (x.ds.filter fun k => k != d)) % 4096) + (x.gv - frontW x (x.ds.filter fun k => k != d))) % 4096 = (x.st + x.gv) % 4096
    omega
theorem InvX.start_nil (h : InvX x []) : x.gv = 0 ∧ x.ds = [] := by
  have h1 : x.ds = [] := List.length_eq_zero_iff.1 (show ([] : List Fm).length = x.ds.length from h.len).symm
  exact ⟨inv_none h.inv h1, h1⟩
theorem InvX.start_cons {r : List Fm} (h : InvX x (f :: r)) : x.st = f.1.seq := by
  have h1 := h.out
  cases e : x.ds with
  | nil => unfold outW at h1; rw [e] at h1; simp [nums] at h1
  | cons d ds =>
    have h2 := inv_head h.inv e
    unfold outW at h1
    rw [e, List.map_cons, nums_cons] at h1
    have h3 := (List.cons.inj h1).1
    rw [h2] at h3
    have := h.inv.st
    unfold nmW at h3
    omega
/-- one in the midst goes: what is kept ahead of it, and what is behind it. -/
theorem mid_gone {a b : List Fm} (hn : (nums (a ++ f :: b)).Nodup) : (a ++ f :: b).filter (fun g => g.1.seq != f.1.seq) = a ++ b := by
  have h1 : (a ++ f :: b)[a.length]? = some f := by simp
  rw [← erase_is hn h1]
  simp
/-- numbers that are not out. -/
theorem InvX.ahead (h : InvX x l) (hg : x.gv < x.sz) : nmW x x.gv ∉ nums l := by
  rw [← h.out]
  intro hm
  obtain ⟨d, hd, e⟩ := List.mem_map.1 hm
  have h1 := h.inv.lt d hd
  have h2 := h.inv.gv
  have h3 := h.inv.sz
  have := nm_inj (w := x) (by omega) (by omega) e
  omega
end
end Go.Proofs.YtlbfioknkagboaaDoor
