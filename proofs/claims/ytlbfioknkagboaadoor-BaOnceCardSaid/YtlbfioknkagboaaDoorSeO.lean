/-
  FRAMES IN A LINE, sent again and again: what is due, what goes, what is over. No step of the program is walked.
-/
import Derived.Test.YtlbfioknkagboaaDoorSeN
namespace Go.Proofs.YtlbfioknkagboaaDoor
open Go.ChangeShapes Go.WideShapes Go.ChangeAt Go.RowKit Go.Deep
set_option linter.unusedVariables false
set_option linter.unusedSimpArgs false

def idxI (z : Nat) : List Int := (List.range z).map fun i => ((i : Nat) : Int)
theorem idxI_len (z : Nat) : (idxI z).length = z := by unfold idxI; simp
theorem idxI_succ (z : Nat) : idxI (z + 1) = idxI z ++ [((z : Nat) : Int)] := by unfold idxI; rw [List.range_succ, List.map_append]; rfl
theorem idxI_get {z k : Nat} (h : k < z) : (idxI z).getD k 0 = ((k : Nat) : Int) := by unfold idxI; simp [List.getD, h]
theorem idxI_mem {z : Nat} {x : Int} : x ∈ idxI z ↔ ∃ i, i < z ∧ ((i : Nat) : Int) = x := by
  unfold idxI
  rw [List.mem_map]
  constructor
  · rintro ⟨i, hi, e⟩; exact ⟨i, List.mem_range.1 hi, e⟩
  · rintro ⟨i, hi, e⟩; exact ⟨i, List.mem_range.2 hi, e⟩
theorem idxI_take {z k : Nat} (h : k ≤ z) : (idxI z).take k = idxI k := by
  unfold idxI
  rw [← List.map_take, List.take_range]
  rw [show min k z = k by omega]
theorem idxI_wf {z : Nat} (h : z ≤ 1000) : ∀ x ∈ idxI z, -9223372036854775808 ≤ x ∧ x ≤ 9223372036854775807 := by
  intro x hx
  obtain ⟨i, hi, rfl⟩ := idxI_mem.1 hx
  omega
section
variable {til : Int} {t z : Nat}
theorem due_line : toldM idleP (lineL pkI til t false z) = (List.range z).map fun i => (⟨pkI i, i, t, til⟩ : Mp) := by
  unfold toldM lineL
  rw [List.filter_eq_self.2]
  · rw [List.map_map]; rfl
  · intro f hf
    obtain ⟨i, -, rfl⟩ := List.mem_map.1 hf
    rfl
theorem seqI_line : seqI ((List.range z).map fun i => (⟨pkI i, i, t, til⟩ : Mp)) = idxI z := by
  unfold seqI idxI
  rw [List.map_map]
  rfl
theorem fine_line : fineB (lineL pkI til t false z) (idxI z) = true := by
  apply fine_yes
  intro k hk
  rw [idxI_len] at hk
  unfold fineAt
  rw [idxI_get hk, seq_due.2 ⟨k, hk, rfl⟩, idxI_take (Nat.le_of_lt hk), decide_eq_false]
  · rfl
  · intro h
    obtain ⟨i, hi, e⟩ := idxI_mem.1 h
    omega
theorem wentC_line : wentC (lineL pkI til t false z) (idxI z) = 0 := by
  unfold wentC
  rw [fine_line, seq_fly]
  rfl
theorem wentT_line : wentT (lineL pkI til t false z) (idxI z) = lineL pkI til (t + 1) true z := by
  rw [wentT_0 wentC_line]
  unfold lineL
  rw [List.map_map]
  refine List.map_congr_left fun i hi => ?_
  show goI (idxI z) (lineF pkI til t false i) = _
  unfold goI
  exact if_pos (idxI_mem.2 ⟨i, List.mem_range.1 hi, rfl⟩)
theorem fly_line (h : 0 < z) : (lineL pkI til t true z).any flyP = true := any_line0.2 ⟨0, h, rfl⟩
theorem why_line {r i : Nat} (ht : 0 ≤ til) : whyF r 0 (lineF pkI til t false i) = if r < t then 3 else 0 := by
  unfold whyF whyM lineF
  by_cases h : r < t
  · simp [h]
  · simp [h]; omega
theorem gone_line {r i : Nat} (ht : 0 ≤ til) : goneP r 0 (lineF pkI til t false i) = decide (r < t) := by
  unfold goneP
  rw [why_line ht]
  by_cases h : r < t <;> simp [h]
theorem told_calm {r : Nat} (ht : 0 ≤ til) (h : t ≤ r) : toldM (goneP r 0) (lineL pkI til t false z) = [] := by
  unfold toldM lineL
  rw [List.filter_eq_nil_iff.2]
  · rfl
  · intro f hf
    obtain ⟨i, -, rfl⟩ := List.mem_map.1 hf
    rw [gone_line ht, decide_eq_false (by omega)]; simp
theorem why_calm {r : Nat} (ht : 0 ≤ til) (h : t ≤ r) : whyL r 0 (lineL pkI til t false z) = [] := by
  unfold whyL lineL
  rw [List.map_map, List.filter_eq_nil_iff]
  intro x hx
  obtain ⟨i, -, rfl⟩ := List.mem_map.1 hx
  show ¬ ((((whyF r 0 (lineF pkI til t false i) : Nat) : Int) != 0) = true)
  rw [why_line ht, if_neg (by omega)]
  simp
theorem left_calm {r : Nat} (ht : 0 ≤ til) (h : t ≤ r) : (lineL pkI til t false z).filter (fun f => !goneP r 0 f) = lineL pkI til t false z := by
  rw [List.filter_eq_self]
  intro f hf
  unfold lineL at hf
  obtain ⟨i, -, rfl⟩ := List.mem_map.1 hf
  rw [gone_line ht, decide_eq_false (by omega)]; rfl
theorem told_over {r : Nat} (ht : 0 ≤ til) (h : r < t) : (toldM (goneP r 0) (lineL pkI til t false z)).length = z := by
  unfold toldM lineL
  rw [List.filter_eq_self.2]
  · simp
  · intro f hf
    obtain ⟨i, -, rfl⟩ := List.mem_map.1 hf
    rw [gone_line ht, decide_eq_true h]
theorem why_over {r : Nat} (ht : 0 ≤ til) (h : r < t) : whyL r 0 (lineL pkI til t false z) = (List.range z).map fun _ => (3 : Int) := by
  unfold whyL lineL
  rw [List.map_map]
  have e : (List.range z).map ((fun f => ((whyF r 0 f : Nat) : Int)) ∘ lineF pkI til t false) = (List.range z).map fun _ => (3 : Int) := by
    refine List.map_congr_left fun i _ => ?_
    show ((whyF r 0 (lineF pkI til t false i) : Nat) : Int) = 3
    rw [why_line ht, if_pos h]
    rfl
  rw [e, List.filter_eq_self]
  intro x hx
  obtain ⟨i, -, rfl⟩ := List.mem_map.1 hx
  rfl
theorem left_over {r : Nat} (ht : 0 ≤ til) (h : r < t) : (lineL pkI til t false z).filter (fun f => !goneP r 0 f) = [] := by
  rw [List.filter_eq_nil_iff]
  intro f hf
  unfold lineL at hf
  obtain ⟨i, -, rfl⟩ := List.mem_map.1 hf
  rw [gone_line ht, decide_eq_true h]; simp
theorem nums_idx : nums (lineL pkI til t false z) = List.range z := nums_line _ _ _ _ _
end
/-- a row of the law's own turned, the session stands. -/
theorem LawS.beside {w0 w w' : World} {p : Sp} {s : Sb} {S : Nat → Prop} (h : LawS w0 w p s) (ho : Only S w w') (hs : ∀ k, FootS p k → ¬ S k) (hb : ∀ k, S k → w0.heap.size ≤ k) : LawS w0 w' p s :=
  ⟨h.se.only ho hs, h.inv, h.bel.trans (ho.below (fun i hi e => by have := hb i e; omega) h.bel.size)⟩
/-- what a session in a line bears as it goes on. -/
structure LineP (s : Sb) (n8 r : Nat) (lf til : Int) (z t : Nat) : Prop where
  l : s.l = lineL pkI til t false z
  size : s.size = n8
  retry : s.retry = r
  life : s.life = lf
  state : s.state = 3
  ask : s.ask = false
  vain : s.vain = 0
  fr : s.fr = 0
  sz : s.x.sz = n8
  ah : nmW s.x s.x.gv = z
theorem lineP_of {size r : Nat} {life tok til : Int} {z : Nat} (hz : z < 4096) : LineP (lineB size r life tok til 0 false size z) size r life til z 0 := ⟨rfl, rfl, rfl, rfl, rfl, rfl, rfl, rfl, rfl, nm_line hz⟩
end Go.Proofs.YtlbfioknkagboaaDoor
