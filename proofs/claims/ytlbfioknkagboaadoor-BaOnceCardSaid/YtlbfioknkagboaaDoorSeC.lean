/-
  CONTRACTS of ba's isDue, someFly, someFlyNear, Due, Flying, Out; of slices.IndexFunc and ContainsFunc for each function that they are given.
-/
import Derived.Test.YtlbfioknkagboaaDoorSeB
namespace Go.Proofs.YtlbfioknkagboaaDoor
open Go.ChangeShapes Go.WideShapes Go.ChangeAt Go.RowKit Go.Deep
set_option linter.unusedVariables false
set_option linter.unusedSimpArgs false

theorem take_fm {l : List Fm} {k : Nat} (h : k < l.length) : l.take (k + 1) = l.take k ++ [l.getD k fm0] := by
  rw [List.take_succ_eq_append_getElem h]; simp [List.getD, h]
theorem mem_fm {l : List Fm} {k : Nat} (h : k < l.length) : l.getD k fm0 ∈ l := by
  have e : l.getD k fm0 = l[k] := by simp [List.getD, h]
  rw [e]; exact List.getElem_mem _
theorem any_yes {l : List Fm} {P : Fm → Bool} {k : Nat} (h : k < l.length) (hp : P (l.getD k fm0) = true) : l.any P = true := List.any_eq_true.2 ⟨_, mem_fm h, hp⟩
theorem any_no {l : List Fm} {P : Fm → Bool} {k : Nat} (h : k < l.length) (h1 : (l.take k).any P = false) (hp : P (l.getD k fm0) = false) : (l.take (k + 1)).any P = false := by
  rw [take_fm h, List.any_append, h1, List.any_cons, List.any_nil, hp]; rfl
def dueP (n : Int) : Fm → Bool := fun f => !f.2 && decide (((f.1.seq : Nat) : Int) = n)
def flyP : Fm → Bool := fun f => f.2
def nearP (a : Int) : Fm → Bool := fun f => f.2 && decide (rd (((f.1.seq : Nat) : Int) - a) < 64)
def idleP : Fm → Bool := fun f => !f.2
def allP : Fm → Bool := fun _ => true

theorem flyp_any (pi pf pt pa tl : Int) (sq sn : Nat) (fb : Bool) (w : World) : Calls Tryd.prog 44 #[.agg #[.int .i64 pi, .int .u32 pf, .int .i64 pt, .int .i64 pa, .slice none 0 0, .int .i64 ((sq : Nat) : Int), .int .i64 ((sn : Nat) : Int), .int .i64 tl, .bool fb]] w fun e w' => e = .returned (.bool (flyP (⟨⟨pi, pf, pt, pa, []⟩, sq, sn, tl⟩, fb))) ∧ Below w.heap.size w w' := flying_any pi pf pt pa tl sq sn fb w
theorem idlep_any (pi pf pt pa tl : Int) (sq sn : Nat) (fb : Bool) (w : World) : Calls Tryd.prog 43 #[.agg #[.int .i64 pi, .int .u32 pf, .int .i64 pt, .int .i64 pa, .slice none 0 0, .int .i64 ((sq : Nat) : Int), .int .i64 ((sn : Nat) : Int), .int .i64 tl, .bool fb]] w fun e w' => e = .returned (.bool (idleP (⟨⟨pi, pf, pt, pa, []⟩, sq, sn, tl⟩, fb))) ∧ Below w.heap.size w w' := due_any pi pf pt pa tl sq sn fb w
theorem allp_any (pi pf pt pa tl : Int) (sq sn : Nat) (fb : Bool) (w : World) : Calls Tryd.prog 52 #[.agg #[.int .i64 pi, .int .u32 pf, .int .i64 pt, .int .i64 pa, .slice none 0 0, .int .i64 ((sq : Nat) : Int), .int .i64 ((sn : Nat) : Int), .int .i64 tl, .bool fb]] w fun e w' => e = .returned (.bool (allP (⟨⟨pi, pf, pt, pa, []⟩, sq, sn, tl⟩, fb))) ∧ Below w.heap.size w w' := anyone_any pi pf pt pa tl sq sn fb w

/-! ### the functions that bear a number -/
set_option maxRecDepth 100000 in
set_option maxHeartbeats 4000000 in
theorem isdue1_any (c : Nat) (n : Int) (pi pf pt pa tl : Int) (sq sn : Nat) (fb : Bool) (w : World) (hc : w.cell? ⟨c, 0, none⟩ = some (.int .i64 n)) :
    Calls Tryd.prog 62 #[.agg #[.int .i64 pi, .int .u32 pf, .int .i64 pt, .int .i64 pa, .slice none 0 0, .int .i64 ((sq : Nat) : Int), .int .i64 ((sn : Nat) : Int), .int .i64 tl, .bool fb], .pointer (some ⟨c, 0, none⟩)] w fun e w' => e = .returned (.bool (dueP n (⟨⟨pi, pf, pt, pa, []⟩, sq, sn, tl⟩, fb))) ∧ Below w.heap.size w w' := by
  go_enter Tryd.func62, Tryd.ntmps62
  have HB := Shut.mk ((Below.refl w.heap.size w).alloc (Nat.le_refl _) (Obj.cells #[.int .i64 pi, .int .u32 pf, .int .i64 pt, .int .i64 pa, .slice none 0 0, .int .i64 ((sq : Nat) : Int), .int .i64 ((sn : Nat) : Int), .int .i64 tl, .bool fb] 85 (0, 0)))
  have HG := Shut.mk (heap_alloc_last w (Obj.cells #[.int .i64 pi, .int .u32 pf, .int .i64 pt, .int .i64 pa, .slice none 0 0, .int .i64 ((sq : Nat) : Int), .int .i64 ((sn : Nat) : Int), .int .i64 tl, .bool fb] 85 (0, 0)))
  have hc1 := below_at HB.out hc
  have HSZ := Shut.mk (show w.heap.size < (w.alloc (Obj.cells #[.int .i64 pi, .int .u32 pf, .int .i64 pt, .int .i64 pa, .slice none 0 0, .int .i64 ((sq : Nat) : Int), .int .i64 ((sn : Nat) : Int), .int .i64 tl, .bool fb] 85 (0, 0))).heap.size by simp)
  obtain ⟨w1, hw1⟩ : ∃ w1, w1 = w.alloc (Obj.cells #[.int .i64 pi, .int .u32 pf, .int .i64 pt, .int .i64 pa, .slice none 0 0, .int .i64 ((sq : Nat) : Int), .int .i64 ((sn : Nat) : Int), .int .i64 tl, .bool fb] 85 (0, 0)) := ⟨_, rfl⟩
  rw [← hw1] at HB HG hc1 HSZ
  have HW1 := Shut.mk hw1.symm
  clear hw1 hc
  go_wp2_with (first
    | (refine wpList_load_row rfl 85 (.tmp 2) rfl w.heap.size rfl 85 #[.int .i64 pi, .int .u32 pf, .int .i64 pt, .int .i64 pa, .slice none 0 0, .int .i64 ((sq : Nat) : Int), .int .i64 ((sn : Nat) : Int), .int .i64 tl, .bool fb] (0, 0) _ (by rw [HW1.out]; exact HG.out) Tryd.underlying85 rfl sizeF ?_
       skip))
  rw [HW1.out]
  refine (due_any pi pf pt pa tl sq sn fb w1).mono ?_
  rintro e w2 ⟨rfl, hb⟩
  have HB2 := Shut.mk (HB.out.trans (hb.mono (Nat.le_of_lt HSZ.out)))
  have HG2 := Shut.mk ((hb.block _ (lt_blk HG.out)).trans HG.out)
  have hc2 := below_at hb hc1
  have d5 : w2.cell? ⟨w.heap.size, 5, none⟩ = some (.int .i64 ((sq : Nat) : Int)) := by have h9 := block_range HG2.out 5 _ rfl; rw [Nat.zero_add] at h9; exact h9
  clear hb hc1
  cases fb with
  | true =>
    rw [Bool.not_true]
    go_wp2_with (fail)
    go_ret
    exact ⟨rfl, HB2.out⟩
  | false =>
    rw [Bool.not_false]
    by_cases he : ((sq : Nat) : Int) = n
    · subst he
      have HP := Shut.mk (show dueP ((sq : Nat) : Int) (⟨⟨pi, pf, pt, pa, []⟩, sq, sn, tl⟩, false) = true by unfold dueP; simp)
      have heq : (((sq : Nat) : Int) == ((sq : Nat) : Int)) = true := by simp
      go_wp2_with (fail)
      go_ret
      exact ⟨by rw [HP.out]; rfl, HB2.out⟩
    · have HP := Shut.mk (show dueP n (⟨⟨pi, pf, pt, pa, []⟩, sq, sn, tl⟩, false) = false by unfold dueP; simp [he])
      have heq : (((sq : Nat) : Int) == n) = false := by simpa using he
      clear he
      go_wp2_with (fail)
      go_ret
      exact ⟨by rw [HP.out]; rfl, HB2.out⟩
set_option maxRecDepth 100000 in
set_option maxHeartbeats 4000000 in
theorem near1_any (c : Nat) (n : Int) (pi pf pt pa tl : Int) (sq sn : Nat) (fb : Bool) (w : World) (hc : w.cell? ⟨c, 0, none⟩ = some (.int .i64 n)) :
    Calls Tryd.prog 64 #[.agg #[.int .i64 pi, .int .u32 pf, .int .i64 pt, .int .i64 pa, .slice none 0 0, .int .i64 ((sq : Nat) : Int), .int .i64 ((sn : Nat) : Int), .int .i64 tl, .bool fb], .pointer (some ⟨c, 0, none⟩)] w fun e w' => e = .returned (.bool (nearP n (⟨⟨pi, pf, pt, pa, []⟩, sq, sn, tl⟩, fb))) ∧ Below w.heap.size w w' := by
  go_enter Tryd.func64, Tryd.ntmps64
  have HB := Shut.mk ((Below.refl w.heap.size w).alloc (Nat.le_refl _) (Obj.cells #[.int .i64 pi, .int .u32 pf, .int .i64 pt, .int .i64 pa, .slice none 0 0, .int .i64 ((sq : Nat) : Int), .int .i64 ((sn : Nat) : Int), .int .i64 tl, .bool fb] 85 (0, 0)))
  have hc1 := below_at HB.out hc
  have hr := block_range (heap_alloc_last w (Obj.cells #[.int .i64 pi, .int .u32 pf, .int .i64 pt, .int .i64 pa, .slice none 0 0, .int .i64 ((sq : Nat) : Int), .int .i64 ((sn : Nat) : Int), .int .i64 tl, .bool fb] 85 (0, 0)))
  have d5 : (w.alloc (Obj.cells #[.int .i64 pi, .int .u32 pf, .int .i64 pt, .int .i64 pa, .slice none 0 0, .int .i64 ((sq : Nat) : Int), .int .i64 ((sn : Nat) : Int), .int .i64 tl, .bool fb] 85 (0, 0))).cell? ⟨w.heap.size, 5, none⟩ = some (.int .i64 ((sq : Nat) : Int)) := by have h9 := hr 5 _ rfl; rw [Nat.zero_add] at h9; exact h9
  have d8 : (w.alloc (Obj.cells #[.int .i64 pi, .int .u32 pf, .int .i64 pt, .int .i64 pa, .slice none 0 0, .int .i64 ((sq : Nat) : Int), .int .i64 ((sn : Nat) : Int), .int .i64 tl, .bool fb] 85 (0, 0))).cell? ⟨w.heap.size, 8, none⟩ = some (.bool fb) := by have h9 := hr 8 _ rfl; rw [Nat.zero_add] at h9; exact h9
  clear hr hc
  cases fb with
  | false =>
    go_wp2_with (fail)
    go_ret
    exact ⟨rfl, HB.out⟩
  | true =>
    go_wp2_with (fail)
    refine (in_any n 64 ((sq : Nat) : Int) _).mono ?_
    rintro e w2 ⟨rfl, rfl⟩
    go_wp2_with (fail)
    go_ret
    exact ⟨rfl, HB.out⟩

set_option maxRecDepth 100000 in
set_option maxHeartbeats 4000000 in
theorem ixhasFly_any (A : Option Addr) (n cp : Nat) (l : List Fm) (w : World) (h : RowS frC 9 fm0 w A n l) :
    Calls Tryd.prog 70 #[.slice A n cp, .func (.func 44) #[] #[]] w fun e w' => (∃ i : Int, e = .returned (.int .i64 i) ∧ decide (0 ≤ i) = l.any flyP) ∧ Below w.heap.size w w' := by
  have HL := Shut.mk h.len
  have HLE := Shut.mk h.le
  have HR := Shut.mk h
  skip
  clear h 
  have hle := HLE.out
  unfold maxLen at hle
  go_enter Tryd.func70, Tryd.ntmps70
  go_wp2_with (fail)
  go_loopw [8] (fun i wr => ∃ k : Nat, k ≤ n ∧ i = .int .i64 k ∧ (l.take k).any flyP = false ∧ Below w.heap.size w wr) (fun i _ => n - (intOf i).toNat)
  case atStart => exact ⟨0, by omega, rfl, rfl, Below.refl _ _⟩
  case round =>
    obtain ⟨k, hk, rfl, hno, hb⟩ := hrel
    have HNO := Shut.mk hno
    have HB := Shut.mk hb
    clear hno hb
    by_cases hlt : k < n
    · obtain ⟨b, off, rfl, hrg⟩ := (RowS.below HR.out HB.out).el k hlt
      have hi : (k : Int) < (n : Int) := by omega
      have HKL := Shut.mk (show k < l.length by rw [HL.out]; exact hlt)
      have HY := Shut.mk (any_yes (P := flyP) HKL.out)
      have HN := Shut.mk (any_no (P := flyP) HKL.out HNO.out)
      generalize l.getD k fm0 = f at *
      obtain ⟨⟨⟨pi, pf, pt, pa, pb⟩, sq, sn, tl⟩, fb⟩ := f
      have hrg' : wr.rangeAt b (off + k * 9) [.int .i64 pi, .int .u32 pf, .int .i64 pt, .int .i64 pa, .slice none 0 0, .int .i64 ((sq : Nat) : Int), .int .i64 ((sn : Nat) : Int), .int .i64 tl, .bool fb] := hrg
      have HRG := Shut.mk hrg'
      clear hrg hrg'
      go_wp2_with (refine wpList_load_mid rfl 85 (.tmp 14) rfl b (off + k * 9) rfl [.int .i64 pi, .int .u32 pf, .int .i64 pt, .int .i64 pa, .slice none 0 0, .int .i64 ((sq : Nat) : Int), .int .i64 ((sn : Nat) : Int), .int .i64 tl, .bool fb] _ HRG.out Tryd.underlying85 rfl sizeF ?_)
      refine (flyp_any pi pf pt pa tl sq sn fb wr).mono ?_
      rintro e w2 ⟨rfl, hb2⟩
      have HB2 := Shut.mk (HB.out.trans (hb2.mono HB.out.size))
      clear hb2
      have HPE := Shut.mk (show flyP (⟨⟨pi, pf, pt, pa, []⟩, sq, sn, tl⟩, fb) = flyP (⟨⟨pi, pf, pt, pa, pb⟩, sq, sn, tl⟩, fb) from rfl)
      cases hP : flyP (⟨⟨pi, pf, pt, pa, pb⟩, sq, sn, tl⟩, fb) with
      | true =>
        have HS := Shut.mk (HY.out hP)
        rw [HPE.out, hP]
        clear hP HY HN
        go_wp2_with (fail)
        go_ret
        exact ⟨⟨_, rfl, by rw [HS.out]; simp⟩, HB2.out⟩
      | false =>
        have HS := Shut.mk (HN.out hP)
        rw [HPE.out, hP]
        clear hP HY HN
        go_wp2_with (fail)
        go_roundw
        case rel => exact ⟨k + 1, by omega, by go_num, HS.out, HB2.out⟩
        case measure => simp [intOf]; omega
    · have hk' : k = n := by omega
      subst hk'
      have HS := Shut.mk (show l.any flyP = false by
        have h9 := HNO.out
        rw [List.take_of_length_le (by rw [HL.out]; omega)] at h9
        exact h9)
      go_wp2_with (fail)
      go_ret
      exact ⟨⟨_, rfl, by rw [HS.out]; rfl⟩, HB.out⟩
set_option maxRecDepth 100000 in
set_option maxHeartbeats 4000000 in
theorem hasFly_any (A : Option Addr) (n cp : Nat) (l : List Fm) (w : World) (h : RowS frC 9 fm0 w A n l) :
    Calls Tryd.prog 61 #[.slice A n cp, .func (.func 44) #[] #[]] w fun e w' => e = .returned (.bool (l.any flyP)) ∧ Below w.heap.size w w' := by
  have HX := Shut.mk (ixhasFly_any A n cp l w h)
  clear h 
  go_enter Tryd.func61, Tryd.ntmps61
  go_wp2_with (fail)
  refine HX.out.mono ?_
  rintro e w1 ⟨⟨i, rfl, hi⟩, hb⟩
  have HI := Shut.mk hi
  have HB := Shut.mk hb
  clear hi hb
  go_wp2_with (fail)
  go_ret
  exact ⟨ret_b HI.out.symm, HB.out⟩

set_option maxRecDepth 100000 in
set_option maxHeartbeats 4000000 in
theorem ixhasDue_any (c : Nat) (q : Int) (A : Option Addr) (n cp : Nat) (l : List Fm) (w : World) (h : RowS frC 9 fm0 w A n l) (hc : w.cell? ⟨c, 0, none⟩ = some (.int .i64 q)) :
    Calls Tryd.prog 70 #[.slice A n cp, .func (.func 62) #[] #[.pointer (some ⟨c, 0, none⟩)]] w fun e w' => (∃ i : Int, e = .returned (.int .i64 i) ∧ decide (0 ≤ i) = l.any (dueP q)) ∧ Below w.heap.size w w' := by
  have HL := Shut.mk h.len
  have HLE := Shut.mk h.le
  have HR := Shut.mk h
  have HC := Shut.mk hc
  clear h hc
  have hle := HLE.out
  unfold maxLen at hle
  go_enter Tryd.func70, Tryd.ntmps70
  go_wp2_with (fail)
  go_loopw [8] (fun i wr => ∃ k : Nat, k ≤ n ∧ i = .int .i64 k ∧ (l.take k).any (dueP q) = false ∧ Below w.heap.size w wr) (fun i _ => n - (intOf i).toNat)
  case atStart => exact ⟨0, by omega, rfl, rfl, Below.refl _ _⟩
  case round =>
    obtain ⟨k, hk, rfl, hno, hb⟩ := hrel
    have HNO := Shut.mk hno
    have HB := Shut.mk hb
    clear hno hb
    by_cases hlt : k < n
    · obtain ⟨b, off, rfl, hrg⟩ := (RowS.below HR.out HB.out).el k hlt
      have hi : (k : Int) < (n : Int) := by omega
      have HKL := Shut.mk (show k < l.length by rw [HL.out]; exact hlt)
      have HY := Shut.mk (any_yes (P := (dueP q)) HKL.out)
      have HN := Shut.mk (any_no (P := (dueP q)) HKL.out HNO.out)
      generalize l.getD k fm0 = f at *
      obtain ⟨⟨⟨pi, pf, pt, pa, pb⟩, sq, sn, tl⟩, fb⟩ := f
      have hrg' : wr.rangeAt b (off + k * 9) [.int .i64 pi, .int .u32 pf, .int .i64 pt, .int .i64 pa, .slice none 0 0, .int .i64 ((sq : Nat) : Int), .int .i64 ((sn : Nat) : Int), .int .i64 tl, .bool fb] := hrg
      have HRG := Shut.mk hrg'
      clear hrg hrg'
      go_wp2_with (refine wpList_load_mid rfl 85 (.tmp 14) rfl b (off + k * 9) rfl [.int .i64 pi, .int .u32 pf, .int .i64 pt, .int .i64 pa, .slice none 0 0, .int .i64 ((sq : Nat) : Int), .int .i64 ((sn : Nat) : Int), .int .i64 tl, .bool fb] _ HRG.out Tryd.underlying85 rfl sizeF ?_)
      refine (isdue1_any c q pi pf pt pa tl sq sn fb wr (below_at HB.out HC.out)).mono ?_
      rintro e w2 ⟨rfl, hb2⟩
      have HB2 := Shut.mk (HB.out.trans (hb2.mono HB.out.size))
      clear hb2
      have HPE := Shut.mk (show (dueP q) (⟨⟨pi, pf, pt, pa, []⟩, sq, sn, tl⟩, fb) = (dueP q) (⟨⟨pi, pf, pt, pa, pb⟩, sq, sn, tl⟩, fb) from rfl)
      cases hP : (dueP q) (⟨⟨pi, pf, pt, pa, pb⟩, sq, sn, tl⟩, fb) with
      | true =>
        have HS := Shut.mk (HY.out hP)
        rw [HPE.out, hP]
        clear hP HY HN
        go_wp2_with (fail)
        go_ret
        exact ⟨⟨_, rfl, by rw [HS.out]; simp⟩, HB2.out⟩
      | false =>
        have HS := Shut.mk (HN.out hP)
        rw [HPE.out, hP]
        clear hP HY HN
        go_wp2_with (fail)
        go_roundw
        case rel => exact ⟨k + 1, by omega, by go_num, HS.out, HB2.out⟩
        case measure => simp [intOf]; omega
    · have hk' : k = n := by omega
      subst hk'
      have HS := Shut.mk (show l.any (dueP q) = false by
        have h9 := HNO.out
        rw [List.take_of_length_le (by rw [HL.out]; omega)] at h9
        exact h9)
      go_wp2_with (fail)
      go_ret
      exact ⟨⟨_, rfl, by rw [HS.out]; rfl⟩, HB.out⟩
set_option maxRecDepth 100000 in
set_option maxHeartbeats 4000000 in
theorem hasDue_any (c : Nat) (q : Int) (A : Option Addr) (n cp : Nat) (l : List Fm) (w : World) (h : RowS frC 9 fm0 w A n l) (hc : w.cell? ⟨c, 0, none⟩ = some (.int .i64 q)) :
    Calls Tryd.prog 61 #[.slice A n cp, .func (.func 62) #[] #[.pointer (some ⟨c, 0, none⟩)]] w fun e w' => e = .returned (.bool (l.any (dueP q))) ∧ Below w.heap.size w w' := by
  have HX := Shut.mk (ixhasDue_any c q A n cp l w h hc)
  clear h hc
  go_enter Tryd.func61, Tryd.ntmps61
  go_wp2_with (fail)
  refine HX.out.mono ?_
  rintro e w1 ⟨⟨i, rfl, hi⟩, hb⟩
  have HI := Shut.mk hi
  have HB := Shut.mk hb
  clear hi hb
  go_wp2_with (fail)
  go_ret
  exact ⟨ret_b HI.out.symm, HB.out⟩

set_option maxRecDepth 100000 in
set_option maxHeartbeats 4000000 in
theorem ixhasNear_any (c : Nat) (q : Int) (A : Option Addr) (n cp : Nat) (l : List Fm) (w : World) (h : RowS frC 9 fm0 w A n l) (hc : w.cell? ⟨c, 0, none⟩ = some (.int .i64 q)) :
    Calls Tryd.prog 70 #[.slice A n cp, .func (.func 64) #[] #[.pointer (some ⟨c, 0, none⟩)]] w fun e w' => (∃ i : Int, e = .returned (.int .i64 i) ∧ decide (0 ≤ i) = l.any (nearP q)) ∧ Below w.heap.size w w' := by
  have HL := Shut.mk h.len
  have HLE := Shut.mk h.le
  have HR := Shut.mk h
  have HC := Shut.mk hc
  clear h hc
  have hle := HLE.out
  unfold maxLen at hle
  go_enter Tryd.func70, Tryd.ntmps70
  go_wp2_with (fail)
  go_loopw [8] (fun i wr => ∃ k : Nat, k ≤ n ∧ i = .int .i64 k ∧ (l.take k).any (nearP q) = false ∧ Below w.heap.size w wr) (fun i _ => n - (intOf i).toNat)
  case atStart => exact ⟨0, by omega, rfl, rfl, Below.refl _ _⟩
  case round =>
    obtain ⟨k, hk, rfl, hno, hb⟩ := hrel
    have HNO := Shut.mk hno
    have HB := Shut.mk hb
    clear hno hb
    by_cases hlt : k < n
    · obtain ⟨b, off, rfl, hrg⟩ := (RowS.below HR.out HB.out).el k hlt
      have hi : (k : Int) < (n : Int) := by omega
      have HKL := Shut.mk (show k < l.length by rw [HL.out]; exact hlt)
      have HY := Shut.mk (any_yes (P := (nearP q)) HKL.out)
      have HN := Shut.mk (any_no (P := (nearP q)) HKL.out HNO.out)
      generalize l.getD k fm0 = f at *
      obtain ⟨⟨⟨pi, pf, pt, pa, pb⟩, sq, sn, tl⟩, fb⟩ := f
      have hrg' : wr.rangeAt b (off + k * 9) [.int .i64 pi, .int .u32 pf, .int .i64 pt, .int .i64 pa, .slice none 0 0, .int .i64 ((sq : Nat) : Int), .int .i64 ((sn : Nat) : Int), .int .i64 tl, .bool fb] := hrg
      have HRG := Shut.mk hrg'
      clear hrg hrg'
      go_wp2_with (refine wpList_load_mid rfl 85 (.tmp 14) rfl b (off + k * 9) rfl [.int .i64 pi, .int .u32 pf, .int .i64 pt, .int .i64 pa, .slice none 0 0, .int .i64 ((sq : Nat) : Int), .int .i64 ((sn : Nat) : Int), .int .i64 tl, .bool fb] _ HRG.out Tryd.underlying85 rfl sizeF ?_)
      refine (near1_any c q pi pf pt pa tl sq sn fb wr (below_at HB.out HC.out)).mono ?_
      rintro e w2 ⟨rfl, hb2⟩
      have HB2 := Shut.mk (HB.out.trans (hb2.mono HB.out.size))
      clear hb2
      have HPE := Shut.mk (show (nearP q) (⟨⟨pi, pf, pt, pa, []⟩, sq, sn, tl⟩, fb) = (nearP q) (⟨⟨pi, pf, pt, pa, pb⟩, sq, sn, tl⟩, fb) from rfl)
      cases hP : (nearP q) (⟨⟨pi, pf, pt, pa, pb⟩, sq, sn, tl⟩, fb) with
      | true =>
        have HS := Shut.mk (HY.out hP)
        rw [HPE.out, hP]
        clear hP HY HN
        go_wp2_with (fail)
        go_ret
        exact ⟨⟨_, rfl, by rw [HS.out]; simp⟩, HB2.out⟩
      | false =>
        have HS := Shut.mk (HN.out hP)
        rw [HPE.out, hP]
        clear hP HY HN
        go_wp2_with (fail)
        go_roundw
        case rel => exact ⟨k + 1, by omega, by go_num, HS.out, HB2.out⟩
        case measure => simp [intOf]; omega
    · have hk' : k = n := by omega
      subst hk'
      have HS := Shut.mk (show l.any (nearP q) = false by
        have h9 := HNO.out
        rw [List.take_of_length_le (by rw [HL.out]; omega)] at h9
        exact h9)
      go_wp2_with (fail)
      go_ret
      exact ⟨⟨_, rfl, by rw [HS.out]; rfl⟩, HB.out⟩
set_option maxRecDepth 100000 in
set_option maxHeartbeats 4000000 in
theorem hasNear_any (c : Nat) (q : Int) (A : Option Addr) (n cp : Nat) (l : List Fm) (w : World) (h : RowS frC 9 fm0 w A n l) (hc : w.cell? ⟨c, 0, none⟩ = some (.int .i64 q)) :
    Calls Tryd.prog 61 #[.slice A n cp, .func (.func 64) #[] #[.pointer (some ⟨c, 0, none⟩)]] w fun e w' => e = .returned (.bool (l.any (nearP q))) ∧ Below w.heap.size w w' := by
  have HX := Shut.mk (ixhasNear_any c q A n cp l w h hc)
  clear h hc
  go_enter Tryd.func61, Tryd.ntmps61
  go_wp2_with (fail)
  refine HX.out.mono ?_
  rintro e w1 ⟨⟨i, rfl, hi⟩, hb⟩
  have HI := Shut.mk hi
  have HB := Shut.mk hb
  clear hi hb
  go_wp2_with (fail)
  go_ret
  exact ⟨ret_b HI.out.symm, HB.out⟩

/-! ### what is asked of the frames -/
section
variable {B : Nat} {w : World} {p : Sp} {s : Sb}
set_option maxRecDepth 100000 in
set_option maxHeartbeats 4000000 in
theorem somefly_any (h : IsSe B w p s) (hi : InvB s) : Calls Tryd.prog 47 #[.pointer (some ⟨p.g, 0, none⟩)] w fun e w' => e = .returned (.bool (s.l.any flyP)) ∧ Below w.heap.size w w' := by
  obtain ⟨A, c, hv, hrow, -⟩ := h.out hi
  obtain ⟨-, -, -, -, -, -, c6, -⟩ := h.cells
  rw [hv] at c6
  have HR := Shut.mk hrow
  clear h hi hv hrow
  go_enter Tryd.func47, Tryd.ntmps47
  go_wp2_with (fail)
  refine (hasFly_any A s.l.length c s.l w HR.out).mono ?_
  rintro e w2 ⟨rfl, hb⟩
  have HB := Shut.mk hb
  go_wp2_with (fail)
  go_ret
  exact ⟨rfl, HB.out⟩
set_option maxRecDepth 100000 in
set_option maxHeartbeats 4000000 in
theorem isdue_any (h : IsSe B w p s) (hi : InvB s) (n : Int) : Calls Tryd.prog 45 #[.pointer (some ⟨p.g, 0, none⟩), .int .i64 n] w fun e w' => e = .returned (.bool (s.l.any (dueP n))) ∧ Below w.heap.size w w' := by
  obtain ⟨A, c, hv, hrow, -⟩ := h.out hi
  obtain ⟨-, -, -, -, -, -, c6, -⟩ := h.cells
  rw [hv] at c6
  have HB := Shut.mk ((Below.refl w.heap.size w).alloc (Nat.le_refl _) (Obj.cells #[.int .i64 n] 3 (0, 0)))
  have HG := Shut.mk (heap_alloc_last w (Obj.cells #[.int .i64 n] 3 (0, 0)))
  have HSZ := Shut.mk (show w.heap.size ≤ (w.alloc (Obj.cells #[.int .i64 n] 3 (0, 0))).heap.size by simp)
  have c61 := below_at HB.out c6
  have HR := Shut.mk (hrow.below HB.out)
  clear h hi hv hrow c6
  go_enter Tryd.func45, Tryd.ntmps45
  go_wp2_with (fail)
  generalize w.alloc _ = w1 at *
  have HC := Shut.mk (show w1.cell? ⟨w.heap.size, 0, none⟩ = some (.int .i64 n) by have h9 := block_range HG.out 0 _ rfl; exact h9)
  generalize hs : w.heap.size = k at *
  have HS := Shut.mk hs
  clear hs
  refine (hasDue_any k n A s.l.length c s.l w1 HR.out HC.out).mono ?_
  rintro e w2 ⟨rfl, hb⟩
  have HB2 := Shut.mk (HB.out.trans (hb.mono HSZ.out))
  go_wp2_with (fail)
  go_ret
  exact ⟨rfl, by rw [HS.out]; exact HB2.out⟩
set_option maxRecDepth 100000 in
set_option maxHeartbeats 4000000 in
theorem near_any (h : IsSe B w p s) (hi : InvB s) (n : Int) : Calls Tryd.prog 48 #[.pointer (some ⟨p.g, 0, none⟩), .int .i64 n] w fun e w' => e = .returned (.bool (s.l.any (nearP n))) ∧ Below w.heap.size w w' := by
  obtain ⟨A, c, hv, hrow, -⟩ := h.out hi
  obtain ⟨-, -, -, -, -, -, c6, -⟩ := h.cells
  rw [hv] at c6
  have HB := Shut.mk ((Below.refl w.heap.size w).alloc (Nat.le_refl _) (Obj.cells #[.int .i64 n] 3 (0, 0)))
  have HG := Shut.mk (heap_alloc_last w (Obj.cells #[.int .i64 n] 3 (0, 0)))
  have HSZ := Shut.mk (show w.heap.size ≤ (w.alloc (Obj.cells #[.int .i64 n] 3 (0, 0))).heap.size by simp)
  have c61 := below_at HB.out c6
  have HR := Shut.mk (hrow.below HB.out)
  clear h hi hv hrow c6
  go_enter Tryd.func48, Tryd.ntmps48
  go_wp2_with (fail)
  generalize w.alloc _ = w1 at *
  have HC := Shut.mk (show w1.cell? ⟨w.heap.size, 0, none⟩ = some (.int .i64 n) by have h9 := block_range HG.out 0 _ rfl; exact h9)
  generalize hs : w.heap.size = k at *
  have HS := Shut.mk hs
  clear hs
  refine (hasNear_any k n A s.l.length c s.l w1 HR.out HC.out).mono ?_
  rintro e w2 ⟨rfl, hb⟩
  have HB2 := Shut.mk (HB.out.trans (hb.mono HSZ.out))
  go_wp2_with (fail)
  go_ret
  exact ⟨rfl, by rw [HS.out]; exact HB2.out⟩
end
end Go.Proofs.YtlbfioknkagboaaDoor
