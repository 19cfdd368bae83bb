/-
  CONTRACTS of build.Choose, of the reference's Choose.
-/
import Derived.Test.YtlkoleannlpflaaDoorBuildD
import Derived.Deep.RegionHeld3
namespace Go.Proofs.YtlkoleannlpflaaDoor
open Go.ChangeShapes Go.WideShapes Go.ChangeAt Go.RowKit Go.Deep
set_option linter.unusedVariables false
set_option linter.unusedSimpArgs false

theorem three_last (w : World) (o1 o2 o3 : Obj) : (((w.alloc o1).alloc o2).alloc o3).heap[w.heap.size]? = some o1 ∧ (((w.alloc o1).alloc o2).alloc o3).heap[w.heap.size + 1]? = some o2 ∧ (((w.alloc o1).alloc o2).alloc o3).heap[w.heap.size + 2]? = some o3 ∧ Below w.heap.size w (((w.alloc o1).alloc o2).alloc o3) := by
  obtain ⟨h1, h2, hb⟩ := two_last w o1 o2
  have h3 := heap_alloc_last ((w.alloc o1).alloc o2) o3
  have hs : ((w.alloc o1).alloc o2).heap.size = w.heap.size + 2 := by simp
  rw [hs] at h3
  have b3 := (Below.refl ((w.alloc o1).alloc o2).heap.size ((w.alloc o1).alloc o2)).alloc (Nat.le_refl _) o3
  exact ⟨(b3.block _ (lt_blk h1)).trans h1, (b3.block _ (lt_blk h2)).trans h2, h3, hb.alloc hb.size o3⟩
theorem row_one {w : World} {g : Nat} {x : Int} {t : TypeId} {fr : Nat × Nat} (h : w.heap[g]? = some (.cells #[.int .i64 x] t fr)) (hx : IntKind.i64.min ≤ x ∧ x ≤ IntKind.i64.max) : RowB .i64 w (some ⟨g, 0, none⟩) 1 [x] := by
  refine ⟨rfl, by unfold maxLen; omega, fun i hi => ?_, fun _ => ⟨g, 0, rfl, fun i hi => ?_⟩⟩
  · obtain rfl : i = 0 := by omega
    exact hx
  · obtain rfl : i = 0 := by omega
    simp only [World.cell?, h]
    rfl
theorem alone_is {r : Rt} {xs : List Int} (h : 0 < xs.length) (hv : validR r = true) : aloneB r xs = lenOk (xs.getD 0 0) := by
  unfold aloneB
  cases xs with
  | nil => simp at h
  | cons x l => rw [hv]; simp
theorem alone_no1 {r : Rt} {xs : List Int} (h : xs.length = 0) : aloneB r xs = false := by
  have : xs = [] := List.eq_nil_of_length_eq_zero h
  subst this; unfold aloneB; simp
theorem alone_no2 {r : Rt} {xs : List Int} (h : validR r = false) : aloneB r xs = false := by unfold aloneB; rw [h]; rfl
def chV (r : Rt) (m : Lm) (xs : List Int) : Value := .tuple #[.int .i64 ((chooseB r m xs).1 : Nat), .bool (chooseB r m xs).2]
theorem chv_many {r : Rt} {m : Lm} {xs : List Int} {k : Nat} (h : manyB r m xs = k) (h0 : 0 < k) : chV r m xs = .tuple #[.int .i64 (k : Nat), .bool true] := by unfold chV; rw [choose_many (by omega), h]
theorem chv_one {r : Rt} {m : Lm} {xs : List Int} (h : manyB r m xs = 0) (ha : aloneB r xs = true) : chV r m xs = .tuple #[.int .i64 1, .bool false] := by unfold chV; rw [choose_alone h ha]; rfl
theorem chv_none {r : Rt} {m : Lm} {xs : List Int} (h : manyB r m xs = 0) (ha : aloneB r xs = false) : chV r m xs = .tuple #[.int .i64 0, .bool false] := by unfold chV; rw [choose_none h ha]; rfl
theorem chv_is {r : Rt} {m : Lm} {xs : List Int} : chV r m xs = .tuple #[.int .i64 ((chooseB r m xs).1 : Nat), .bool (chooseB r m xs).2] := rfl
theorem ret_tt {a b : Value} (h : b = a) : Ending.returned a = .returned b := by rw [h]
set_option maxRecDepth 100000 in
set_option maxHeartbeats 8000000 in
theorem choose_any (r : Rt) (m : Lm) (A : Option Addr) (n c : Nat) (xs : List Int) (w : World) (hT : Tab w) (h : RowB .i64 w A n xs) (hc : n ≤ c) (hn : n ≤ 1000000) :
    Calls Tryd.prog 8 #[r.val, m.val, .slice A n c] w fun e w' => e = .returned (chV r m xs) ∧ Below w.heap.size w w' := by
  have HN := Shut.mk hn
  clear hn
  have HT := Shut.mk hT
  have HR := Shut.mk h
  have HC := Shut.mk hc
  clear hT h hc
  obtain ⟨hg, hm, hs, hb⟩ := three_last w (.cells r.arr 23) (.cells m.arr 25) (.cells #[.slice A n c] 26)
  have HB := Shut.mk hb
  have HG := Shut.mk hg
  have HM := Shut.mk hm
  have HSL := Shut.mk hs
  clear hg hm hs hb
  go_enter Tryd.func8, Tryd.ntmps8
  go_wp2_with (fail)
  generalize World.alloc (World.alloc (World.alloc w _) _) _ = w2 at *
  have hs2 : w2.cell? ⟨w.heap.size + 2, 0, none⟩ = some (.slice A n c) := by simp only [World.cell?, HSL.out]; rfl
  have HCL := Shut.mk (fun (i : Nat) (hi : i < n) (w' : World) (hB : Below w2.heap.size w2 w') => closure_any r m A n c xs w.heap.size (w.heap.size + 1) (w.heap.size + 2) i w' ((HT.out.below HB.out).below hB) ((HR.out.below HB.out).below hB) HC.out hi ((hB.block _ (lt_blk HG.out)).trans HG.out) ((hB.block _ (lt_blk HM.out)).trans HM.out) (below_at hB hs2))
  clear hs2
  refine (search_any _ _ _ n _ w2 (by have := HN.out; omega) HCL.out).mono ?_
  rintro e w3 ⟨⟨k, rfl, hk, h1, h2⟩, hB⟩
  have HK := Shut.mk (show manyB r m xs = k from many_by (by rw [HR.out.len]; exact hk) (fun h => by have := h1 (by omega); rw [show k - 1 + 1 = k by omega] at this; simpa using this) (by
    rcases Nat.lt_or_ge k n with h | h
    · exact .inr (by have := h2 h; simpa using this)
    · exact .inl (by rw [HR.out.len]; omega)))
  clear h1 h2 HCL
  have T0 := Shut.mk (HB.out.trans (hB.mono HB.out.size))
  have T1 := Shut.mk ((hB.block _ (lt_blk HG.out)).trans HG.out)
  have T2 := Shut.mk ((hB.block _ (lt_blk HM.out)).trans HM.out)
  have T3 := Shut.mk ((hB.block _ (lt_blk HSL.out)).trans HSL.out)
  clear hB HB HG HM HSL
  have HB := T0
  have HG := T1
  have HM := T2
  have HSL := T3
  clear T0 T1 T2 T3
  by_cases h0 : 0 < k
  · have e0 : decide ((0 : Int) < (k : Int)) = true := by simpa using h0
    have e1 : decide (0 < k) = true := by simpa using h0
    have HV := Shut.mk (chv_many HK.out h0).symm
    clear h0 hk
    go_wp2_with (fail)
    go_ret2
    exact ⟨ret_tt HV.out.symm, HB.out⟩
  obtain rfl : k = 0 := by omega
  clear h0 hk
  have hs3 : w3.cell? ⟨w.heap.size + 2, 0, none⟩ = some (.slice A n c) := by simp only [World.cell?, HSL.out]; rfl
  by_cases hn0 : n = 0
  · have HV := Shut.mk (chv_none HK.out (alone_no1 (by rw [HR.out.len]; exact hn0))).symm
    subst hn0
    go_wp2_with (fail)
    go_ret2
    exact ⟨ret_tt HV.out.symm, HB.out⟩
  have e0 : decide ((0 : Int) < (n : Int)) = true := by simp; omega
  have e1 : decide (0 < n) = true := by simp; omega
  obtain ⟨b, off, rfl, hel⟩ := (HR.out.below HB.out).cells (by omega)
  have HEL := Shut.mk (hel 0 (by omega))
  have HN0 := Shut.mk (show 0 < xs.length by rw [HR.out.len]; omega)
  have HWF := Shut.mk (HR.out.wf 0 (by omega))
  have hn1 : (0 : Int) < (n : Int) := by omega
  clear hel hn0
  have hx0 := rt_cell (r := r) HG.out 0
  have hx1 := rt_cell (r := r) HG.out 1
  have hx2 := rt_cell (r := r) HG.out 2
  have hx3 := rt_cell (r := r) HG.out 3
  have hx4 := rt_cell (r := r) HG.out 4
  dsimp only [Rt.arr] at hx0 hx1 hx2 hx3 hx4
  simp only [List.getElem?_toArray, List.getElem?_cons_zero, List.getElem?_cons_succ] at hx0 hx1 hx2 hx3 hx4
  go_wp2_with (fail)
  clear hx0 hx1 hx2 hx3 hx4
  refine (valid_any r w3).mono ?_
  rintro e w4 ⟨rfl, hB⟩
  have HEL4 := Shut.mk (below_at hB HEL.out)
  clear hs3 HEL
  have T0 := Shut.mk (HB.out.trans (hB.mono HB.out.size))
  have T1 := Shut.mk ((hB.block _ (lt_blk HG.out)).trans HG.out)
  have T2 := Shut.mk ((hB.block _ (lt_blk HM.out)).trans HM.out)
  have T3 := Shut.mk ((hB.block _ (lt_blk HSL.out)).trans HSL.out)
  clear hB HB HG HM HSL
  have HB := T0
  have HG := T1
  have HM := T2
  have HSL := T3
  clear T0 T1 T2 T3
  have hs4 : w4.cell? ⟨w.heap.size + 2, 0, none⟩ = some (.slice (some ⟨b, off, none⟩) n c) := by simp only [World.cell?, HSL.out]; rfl
  cases hv : validR r
  · have HV := Shut.mk (chv_none HK.out (alone_no2 hv)).symm
    go_wp2_with (fail)
    go_ret2
    exact ⟨ret_tt HV.out.symm, HB.out⟩
  have HAL := Shut.mk (alone_is HN0.out hv)
  generalize xs.getD 0 0 = x at *
  have hel := HEL4.out
  rw [Nat.add_zero] at hel
  have HB5 := Shut.mk (HB.out.alloc HB.out.size (.cells #[.int .i64 x] 3))
  have HL5 := Shut.mk (heap_alloc_last w4 (.cells #[.int .i64 x] 3))
  go_wp2_with (fail)
  generalize World.alloc w4 _ = w5 at *
  refine (maygo_any (some ⟨w4.heap.size, 0, none⟩) 1 1 [x] w5 (row_one HL5.out HWF.out)).mono ?_
  rintro e w6 ⟨rfl, rfl⟩
  have HA2 := Shut.mk (show [x].all lenOk = aloneB r xs by rw [HAL.out]; simp)
  rw [HA2.out]
  cases ha : aloneB r xs
  · have HV := Shut.mk (chv_none HK.out ha).symm
    go_wp2_with (fail)
    go_ret2
    exact ⟨ret_tt HV.out.symm, HB5.out⟩
  have HV := Shut.mk (chv_one HK.out ha).symm
  go_wp2_with (fail)
  go_ret2
  exact ⟨ret_tt HV.out.symm, HB5.out⟩
end Go.Proofs.YtlkoleannlpflaaDoor
