/-
  CONTRACTS of package ps: Add.
-/
import Derived.Test.YtaiegmnjoffloaaDoorPsD
import Derived.Deep.CutRange
import Derived.StillTailTactics
import Derived.LoopTactic
namespace Go.Proofs.YtaiegmnjoffloaaDoor
open Go.ChangeShapes Go.WideShapes Go.ChangeAt Go.RowKit Go.Deep
set_option linter.unusedVariables false
set_option linter.unusedSimpArgs false

set_option maxRecDepth 100000 in
set_option maxHeartbeats 8000000 in
theorem cadd_aid1 (g : Nat) (a m : Int) (u : Nat → Bool) (w : World) (E : Nat → Addr) (he : w.cell? ⟨0, 0, none⟩ = some (errP (E 103))) (hs : 0 < w.heap.size) (ha : a < 1) :
    Calls Tryd.prog 11 #[.pointer (some ⟨g, 0, none⟩), .int .i64 a, .agg #[.bool (u 0), .bool (u 1), .bool (u 2), .bool (u 3)], .int .i64 m] w fun e w' => e = .returned (errP (E 103)) ∧ Below w.heap.size w w' := by
  have HB := Shut.mk ((Below.refl w.heap.size w).alloc (Nat.le_refl _) (Obj.cells #[.bool (u 0), .bool (u 1), .bool (u 2), .bool (u 3)] 26 (0, 0)))
  have z := (HB.out.cell (cell_lt' he)).trans he
  generalize E 103 = er at *
  clear he hs 
  go_enter Tryd.func11, Tryd.ntmps11
  go_wp2_with (fail)
  go_ret
  exact ⟨rfl, HB.out⟩
set_option maxRecDepth 100000 in
set_option maxHeartbeats 8000000 in
theorem cadd_aid2 (g : Nat) (a m : Int) (u : Nat → Bool) (w : World) (E : Nat → Addr) (he : w.cell? ⟨0, 0, none⟩ = some (errP (E 103))) (hs : 0 < w.heap.size) (ha0 : ¬ a < 1) (ha : 16 < a) :
    Calls Tryd.prog 11 #[.pointer (some ⟨g, 0, none⟩), .int .i64 a, .agg #[.bool (u 0), .bool (u 1), .bool (u 2), .bool (u 3)], .int .i64 m] w fun e w' => e = .returned (errP (E 103)) ∧ Below w.heap.size w w' := by
  have HB := Shut.mk ((Below.refl w.heap.size w).alloc (Nat.le_refl _) (Obj.cells #[.bool (u 0), .bool (u 1), .bool (u 2), .bool (u 3)] 26 (0, 0)))
  have z := (HB.out.cell (cell_lt' he)).trans he
  generalize E 103 = er at *
  clear he hs 
  go_enter Tryd.func11, Tryd.ntmps11
  go_wp2_with (fail)
  go_ret
  exact ⟨rfl, HB.out⟩
set_option maxRecDepth 100000 in
set_option maxHeartbeats 8000000 in
theorem cadd_low (g : Nat) (a m : Int) (u : Nat → Bool) (w : World) (E : Nat → Addr) (he : w.cell? ⟨0, 0, none⟩ = some (errP (E 103))) (hs : 0 < w.heap.size) (ha0 : ¬ a < 1) (ha : ¬ 16 < a) (hm : m < 0) :
    Calls Tryd.prog 11 #[.pointer (some ⟨g, 0, none⟩), .int .i64 a, .agg #[.bool (u 0), .bool (u 1), .bool (u 2), .bool (u 3)], .int .i64 m] w fun e w' => e = .returned (errP (E 103)) ∧ Below w.heap.size w w' := by
  have HB := Shut.mk ((Below.refl w.heap.size w).alloc (Nat.le_refl _) (Obj.cells #[.bool (u 0), .bool (u 1), .bool (u 2), .bool (u 3)] 26 (0, 0)))
  have z := (HB.out.cell (cell_lt' he)).trans he
  generalize E 103 = er at *
  clear he hs 
  go_enter Tryd.func11, Tryd.ntmps11
  go_wp2_with (fail)
  go_ret
  exact ⟨rfl, HB.out⟩
set_option maxRecDepth 100000 in
set_option maxHeartbeats 8000000 in
theorem cadd_high (g : Nat) (a m : Int) (u : Nat → Bool) (w : World) (E : Nat → Addr) (he : w.cell? ⟨0, 0, none⟩ = some (errP (E 103))) (hs : 0 < w.heap.size) (ha0 : ¬ a < 1) (ha : ¬ 16 < a) (hm : ¬ m < 0) (hm2 : 8 < m) :
    Calls Tryd.prog 11 #[.pointer (some ⟨g, 0, none⟩), .int .i64 a, .agg #[.bool (u 0), .bool (u 1), .bool (u 2), .bool (u 3)], .int .i64 m] w fun e w' => e = .returned (errP (E 103)) ∧ Below w.heap.size w w' := by
  have HB := Shut.mk ((Below.refl w.heap.size w).alloc (Nat.le_refl _) (Obj.cells #[.bool (u 0), .bool (u 1), .bool (u 2), .bool (u 3)] 26 (0, 0)))
  have z := (HB.out.cell (cell_lt' he)).trans he
  generalize E 103 = er at *
  clear he hs 
  go_enter Tryd.func11, Tryd.ntmps11
  go_wp2_with (fail)
  go_ret
  exact ⟨rfl, HB.out⟩
set_option maxRecDepth 100000 in
set_option maxHeartbeats 8000000 in
theorem cadd_in (g : Nat) (y : Nat → Cst) (k m : Nat) (u : Nat → Bool) (w : World) (E : Nat → Addr) (he : w.cell? ⟨1, 0, none⟩ = some (errP (E 108))) (h : IsCs w g y) (k1 : 1 ≤ k) (k2 : k ≤ 16) (hm : m ≤ 8) :
    Calls Tryd.prog 11 #[.pointer (some ⟨g, 0, none⟩), .int .i64 (k : Int), .agg #[.bool (u 0), .bool (u 1), .bool (u 2), .bool (u 3)], .int .i64 (m : Int)] w fun e w' => e = .returned (if thC y (k : Int) = true then errP (E 108) else .nilIface) ∧ IsCs w' g (if thC y (k : Int) = true then y else updF y k (⟨1, m, 0, u⟩ : Cst)) ∧ Only (· = g) w w' := by
  have HB1 := Shut.mk ((Below.refl w.heap.size w).alloc (Nat.le_refl _) (Obj.cells #[.bool (u 0), .bool (u 1), .bool (u 2), .bool (u 3)] 26 (0, 0)))
  have HN1 := Shut.mk (block_range (MapKept.heap_alloc w (Obj.cells #[.bool (u 0), .bool (u 1), .bool (u 2), .bool (u 3)] 26 (0, 0))).1)
  have hX := h.below HB1.out
  have HX := Shut.mk hX
  have e3 : ¬ (k : Int) < 1 := by omega
  have e4 : ¬ (16 : Int) < (k : Int) := by omega
  have e5 : ¬ (m : Int) < 0 := by omega
  have e6 : ¬ (8 : Int) < (m : Int) := by omega
  have e7 : ¬ 8 < m := by omega
  have z := (HB1.out.cell (cell_lt' he)).trans he
  generalize E 108 = er at *
  cases ht : thC y (k : Int) with
  | true =>
    rw [if_pos rfl, if_pos rfl]
    have HT := Shut.mk (find_yes g y k _ hX ht)
    clear h he hX ht k1 k2 hm
    go_enter Tryd.func11, Tryd.ntmps11
    go_wp2_with (fail)
    refine (HT.out).mono ?_
    rintro e w' ⟨rfl, rfl⟩
    go_wp2_with (fail)
    go_ret
    exact ⟨rfl, HX.out, Only.of_quiet HB1.out⟩
  | false =>
    rw [if_neg (by simp), if_neg (by simp)]
    have HT := Shut.mk (find_no g y (k : Int) _ hX ht)
    obtain ⟨pre, post, hl, hb, hs⟩ := arr_part cstC_len y [] [] (show k < 17 by omega)
    have HPL := Shut.mk (show pre.length = k * 7 by simpa using hl)
    have HBW := Shut.mk fun (w' : World) (h' : IsCs w' g y) => show w'.heap[g]? = some (.cells (pre ++ cstC (y k) ++ post).toArray 31 (0, 0)) by rw [← hb]; exact h'
    have HPUT := Shut.mk fun (w' : World) (h' : w'.heap[g]? = some (.cells (pre ++ cstC (y k) ++ post).toArray 31 (0, 0))) => show IsCs (w'.setRow g (pre ++ cstC (⟨1, m, 0, u⟩ : Cst) ++ post).toArray) g (updF y k (⟨1, m, 0, u⟩ : Cst)) by rw [hs]; exact setRow_heap w' g _ _ _ (0, 0) h'
    obtain ⟨gb, hgb⟩ : ∃ gb, gb = w.heap.size := ⟨_, rfl⟩
    have HGB := Shut.mk hgb
    have e1 : (0 : Int) ≤ (k : Int) := by omega
    have e2 : (k : Int) < 17 := by omega
    clear h he hX ht hl hb hs hgb k1 k2 hm
    go_enter Tryd.func11, Tryd.ntmps11
    go_wp2_with (fail)
    refine (HT.out).mono ?_
    rintro e w' ⟨rfl, rfl⟩
    rw [← HGB.out] at HN1 ⊢
    generalize World.alloc w (Obj.cells #[.bool (u 0), .bool (u 1), .bool (u 2), .bool (u 3)] 26 (0, 0)) = w1 at *
    have HBB := Shut.mk fun (w' : World) (hb : Below w1.heap.size w1 w') => HBW.out w' (HX.out.below hb)
    have HU := Shut.mk fun (w' : World) (hb : Below w1.heap.size w1 w') => show w'.rangeAt gb 0 [.bool (u 0), .bool (u 1), .bool (u 2), .bool (u 3)] from fun j v hv => below_at hb (HN1.out j v hv)
    go_wp2_with (fail)
    refine wp_region_D (fun w' => Below w1.heap.size w1 w') 8 (by kernel_rfl) (show Below w1.heap.size w1 (World.drew w1) from (Below.refl _ _).drew) (fun hHeld hC => ?_)
    refine dP 0 hC hHeld ?_; clear hC; intro hC
    refine dP 1 hC hHeld ?_; clear hC; intro hC
    refine wpAnyD_take (i := 2) (v := .agg ([.bool (u 0), .bool (u 1), .bool (u 2), .bool (u 3)]).toArray) 40 rfl (by kernel_rfl) hC (by kernel_rfl) (by kernel_rfl) (by kernel_rfl) (by decide) (fun _ _ _ h => h) (yieldsIf_load_mid (by rfl) 26 (.tmp 6) rfl gb (0) rfl ([.bool (u 0), .bool (u 1), .bool (u 2), .bool (u 3)]) _ (fun w' hSw => HU.out _ hSw) Tryd.underlying26 rfl size4b) (fun _ => hHeld) ?_
    try simp only [Act.put, List.getElem_toArray, List.getElem_cons_zero, List.getElem_cons_succ, List.setIfInBounds_toArray, List.set_cons_zero, List.set_cons_succ]
    clear hC
    intro hC
    refine dP 3 hC hHeld ?_; clear hC; intro hC
    refine wpAnyD_pure (i := 4) (v := .agg (cstC (⟨1, m, 0, u⟩ : Cst)).toArray) rfl hC (by kernel_rfl) (by kernel_rfl) (by kernel_rfl) (by decide) (fun _ _ _ h => h) (Or.inl ⟨by rfl, ?_⟩) (fun _ => hHeld) ?_
    · intro w hSw
      kernel_rfl
    try simp only [Act.put, List.getElem_toArray, List.getElem_cons_zero, List.getElem_cons_succ, List.setIfInBounds_toArray, List.set_cons_zero, List.set_cons_succ]
    clear hC
    intro hC
    refine dP 5 hC hHeld ?_; clear hC; intro hC
    refine dP 6 hC hHeld ?_; clear hC; intro hC
    refine dP 7 hC hHeld ?_; clear hC; intro hC
    refine wpAnyD_one (i := 8) (by kernel_rfl) rfl hC (fun K hK => ?_)
    clear hC
    refine step_store_part rfl 28 (.tmp 38) (.tmp 35) rfl g (k * 7) (.agg (cstC (⟨1, m, 0, u⟩ : Cst)).toArray) rfl rfl 31 pre (cstC (y k)) (cstC (⟨1, m, 0, u⟩ : Cst)) post (HBB.out _ hHeld) HPL.out rfl rfl sizeSt (cstC_one _) ?_
    have HA2 := Shut.mk (HPUT.out _ (HBB.out _ hHeld))
    have HO2 := Shut.mk ((Only.of_quiet (S := (· = g)) (HB1.out.trans (hHeld.mono HB1.out.size))).trans (only_setRow _ g (pre ++ cstC (⟨1, m, 0, u⟩ : Cst) ++ post).toArray) fun _ _ e => e)
    generalize hq : World.setRow (World.drew w1) g _ = w8 at *
    clear hq
    refine hK.out _ _ (past (by kernel_rfl)) (fun hC => ?_)
    clear hK K
    try simp only [Act.put, List.getElem_toArray, List.getElem_cons_zero, List.getElem_cons_succ, List.setIfInBounds_toArray, List.set_cons_zero, List.set_cons_succ]
    refine wpAnyD_done (by kernel_rfl) ?_ _
    try simp only [Act.put, List.getElem_toArray, List.getElem_cons_zero, List.getElem_cons_succ, List.setIfInBounds_toArray, List.set_cons_zero, List.set_cons_succ]
    clear hC hHeld
    go_wp2_with (fail)
    go_ret
    exact ⟨rfl, HA2.out, HO2.out⟩
theorem add_q {S : List Nat} (g : Nat) (y : Nat → Cst) (a m : Int) (u : Nat → Bool) (w : World) (E : Nat → Addr) (hS : Sent w E S) (h103 : 103 ∈ S) (h108 : 108 ∈ S) (h : IsCs w g y) :
    Calls Tryd.prog 11 #[.pointer (some ⟨g, 0, none⟩), .int .i64 a, .agg #[.bool (u 0), .bool (u 1), .bool (u 2), .bool (u 3)], .int .i64 m] w fun e w' => e = .returned (errV E (addQ y a u m).2) ∧ IsCs w' g (addQ y a u m).1 ∧ Only (· = g) w w' := by
  have z3 : w.cell? ⟨0, 0, none⟩ = some (errP (E 103)) := hS.at_ 103 h103
  have z8 : w.cell? ⟨1, 0, none⟩ = some (errP (E 108)) := hS.at_ 108 h108
  have hs : 0 < w.heap.size := by have := lt_blk h; omega
  unfold addQ
  by_cases ha : aidP a = true
  · have ha' := ha
    unfold aidP at ha'
    simp only [Bool.and_eq_true, decide_eq_true_eq] at ha'
    by_cases hm : mostP m = true
    · rw [if_pos ⟨ha, hm⟩]
      obtain ⟨k, rfl, k1, k2⟩ := aidP_nat ha
      obtain ⟨n, rfl, hn⟩ := mostP_nat hm
      rw [Int.toNat_natCast, Int.toNat_natCast]
      refine (cadd_in g y k n u w E z8 h k1 k2 hn).mono ?_
      rintro e w' ⟨rfl, h1, h2⟩
      split
      · rename_i ht
        rw [if_pos ht] at h1
        exact ⟨by rw [show errV E (y, 108).2 = errP (E 108) from errV_pos E (c := 108) (by decide)], h1, h2⟩
      · rename_i ht
        rw [if_neg ht] at h1
        exact ⟨rfl, h1, h2⟩
    · rw [if_neg (fun e => hm e.2)]
      rw [show errV E (y, 103).2 = errP (E 103) from errV_pos E (c := 103) (by decide)]
      by_cases h0 : m < 0
      · exact (cadd_low g a m u w E z3 hs (by omega) (by omega) h0).mono fun _ _ ⟨e, hb⟩ => ⟨e, h.below hb, Only.of_quiet hb⟩
      · have h8 : 8 < m := by unfold mostP at hm; simp only [Bool.and_eq_true, decide_eq_true_eq] at hm; omega
        exact (cadd_high g a m u w E z3 hs (by omega) (by omega) h0 h8).mono fun _ _ ⟨e, hb⟩ => ⟨e, h.below hb, Only.of_quiet hb⟩
  · rw [if_neg (fun e => ha e.1)]
    rw [show errV E (y, 103).2 = errP (E 103) from errV_pos E (c := 103) (by decide)]
    unfold aidP at ha
    simp only [Bool.and_eq_true, decide_eq_true_eq] at ha
    by_cases h0 : a < 1
    · exact (cadd_aid1 g a m u w E z3 hs h0).mono fun _ _ ⟨e, hb⟩ => ⟨e, h.below hb, Only.of_quiet hb⟩
    · exact (cadd_aid2 g a m u w E z3 hs h0 (by omega)).mono fun _ _ ⟨e, hb⟩ => ⟨e, h.below hb, Only.of_quiet hb⟩
end Go.Proofs.YtaiegmnjoffloaaDoor
