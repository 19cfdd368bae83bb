/-
  CONTRACTS of the reference's Valid, Symbol, Preamble: each in one, of whatever rate.
-/
import Derived.Test.YtlkoleannlpflaaDoorRateD
namespace Go.Proofs.YtlkoleannlpflaaDoor
open Go.ChangeShapes Go.WideShapes Go.ChangeAt Go.RowKit
set_option linter.unusedVariables false
set_option linter.unusedSimpArgs false

theorem valid_low {r : Rt} (h : r.s < 1) : validR r = false := by
  rw [Bool.eq_false_iff]
  intro hv
  have := (valid_in hv).2.1
  omega
theorem valid_mode_no {m c s wd g : Int} (h1 : m ≠ 1) (h2 : m ≠ 2) (h3 : m ≠ 3) (h4 : m ≠ 4) : validR ⟨m, c, s, wd, g⟩ = false := by
  rw [Bool.eq_false_iff]
  intro hv
  have : m = 1 ∨ m = 2 ∨ m = 3 ∨ m = 4 := valid_mode hv
  omega
def Rt.wf (r : Rt) : Prop := -9223372036854775808 ≤ r.s ∧ r.s ≤ 9223372036854775807
set_option maxRecDepth 100000 in
set_option maxHeartbeats 8000000 in
theorem refvalid_any (r : Rt) (w : World) (hs : -9223372036854775808 ≤ r.s ∧ r.s ≤ 9223372036854775807) :
    Calls Tryd.prog 21 #[r.val] w fun e w' => e = .returned (.bool (validR r)) ∧ Below w.heap.size w w' := by
  have HB := Lib.hid ((Below.refl w.heap.size w).alloc (Nat.le_refl _) (.cells r.arr 23))
  have HG := Lib.hid (heap_alloc_last w (.cells r.arr 23))
  obtain ⟨m, c, s, wd, g⟩ := r
  dsimp only at hs
  by_cases h1 : m = 1
  · subst h1
    cases e1 : inB c 7
    · have HE := Lib.hid (show false = validR ⟨1, c, s, wd, g⟩ by unfold validR; rw [if_pos (show (1 : Int) = 1 from rfl)]; dsimp only; rw [e1]; simp)
      go_enter Tryd.func21, Tryd.ntmps21
      go_wp2_with (first | (go_at_call 30; refine (refwidth_any _ _).mono ?_; rintro e w' ⟨rfl, rfl⟩) | (go_at_call 31; refine (in_any _ _ _).mono ?_; rintro e w' ⟨rfl, rfl⟩))
      go_ret
      exact ⟨ret_bool HE.out, HB.out⟩
    cases e2 : (s == 1)
    · have HE := Lib.hid (show false = validR ⟨1, c, s, wd, g⟩ by unfold validR; rw [if_pos (show (1 : Int) = 1 from rfl)]; dsimp only; rw [e1, e2]; simp)
      go_enter Tryd.func21, Tryd.ntmps21
      go_wp2_with (first | (go_at_call 30; refine (refwidth_any _ _).mono ?_; rintro e w' ⟨rfl, rfl⟩) | (go_at_call 31; refine (in_any _ _ _).mono ?_; rintro e w' ⟨rfl, rfl⟩))
      go_ret
      exact ⟨ret_bool HE.out, HB.out⟩
    cases e3 : (wid wd == 0)
    · have HE := Lib.hid (show false = validR ⟨1, c, s, wd, g⟩ by unfold validR; rw [if_pos (show (1 : Int) = 1 from rfl)]; dsimp only; rw [e1, e2, e3]; simp)
      go_enter Tryd.func21, Tryd.ntmps21
      go_wp2_with (first | (go_at_call 30; refine (refwidth_any _ _).mono ?_; rintro e w' ⟨rfl, rfl⟩) | (go_at_call 31; refine (in_any _ _ _).mono ?_; rintro e w' ⟨rfl, rfl⟩))
      go_ret
      exact ⟨ret_bool HE.out, HB.out⟩
    have HE := Lib.hid (show (g == 0) = validR ⟨1, c, s, wd, g⟩ by unfold validR; rw [if_pos (show (1 : Int) = 1 from rfl)]; dsimp only; rw [e1, e2, e3]; rfl)
    go_enter Tryd.func21, Tryd.ntmps21
    go_wp2_with (first | (go_at_call 30; refine (refwidth_any _ _).mono ?_; rintro e w' ⟨rfl, rfl⟩) | (go_at_call 31; refine (in_any _ _ _).mono ?_; rintro e w' ⟨rfl, rfl⟩))
    go_ret
    exact ⟨ret_bool HE.out, HB.out⟩
  by_cases h2 : m = 2
  · subst h2
    clear h1
    by_cases hs0 : s = -9223372036854775808
    · subst hs0
      clear hs
      cases e1 : inB c 7
      · have HE := Lib.hid (show false = validR ⟨2, c, -9223372036854775808, wd, g⟩ from (valid_low (show (-9223372036854775808 : Int) < 1 by decide)).symm)
        have HI := Lib.hid (show inB (wrap64 (-9223372036854775809)) 3 = false by simp [inB, wrap64])
        go_enter Tryd.func21, Tryd.ntmps21
        go_wp2_with (first | (go_at_call 30; refine (refwidth_any _ _).mono ?_; rintro e w' ⟨rfl, rfl⟩) | (go_at_call 31; refine (in_any _ _ _).mono ?_; rintro e w' ⟨rfl, rfl⟩))
        go_ret
        exact ⟨ret_bool HE.out, HB.out⟩
      have HE := Lib.hid (show false = validR ⟨2, c, -9223372036854775808, wd, g⟩ from (valid_low (show (-9223372036854775808 : Int) < 1 by decide)).symm)
      have HI := Lib.hid (show inB (wrap64 (-9223372036854775809)) 3 = false by simp [inB, wrap64])
      have e2 : inB (wrap64 (-9223372036854775809)) 3 = false := HI.out
      go_enter Tryd.func21, Tryd.ntmps21
      go_wp2_with (first | (go_at_call 30; refine (refwidth_any _ _).mono ?_; rintro e w' ⟨rfl, rfl⟩) | (go_at_call 31; refine (in_any _ _ _).mono ?_; rintro e w' ⟨rfl, rfl⟩))
      go_ret
      exact ⟨ret_bool HE.out, HB.out⟩
    have hlo : -9223372036854775808 < s := by omega
    clear hs0
    cases e1 : inB c 7
    · have HE := Lib.hid (show false = validR ⟨2, c, s, wd, g⟩ by unfold validR; rw [if_neg (show ¬ (2 : Int) = 1 by decide), if_pos (show (2 : Int) = 2 from rfl)]; dsimp only; rw [e1]; simp)
      go_enter Tryd.func21, Tryd.ntmps21
      go_wp2_with (first | (go_at_call 30; refine (refwidth_any _ _).mono ?_; rintro e w' ⟨rfl, rfl⟩) | (go_at_call 31; refine (in_any _ _ _).mono ?_; rintro e w' ⟨rfl, rfl⟩))
      go_ret
      exact ⟨ret_bool HE.out, HB.out⟩
    cases e2 : inB (s - 1) 3
    · have HE := Lib.hid (show false = validR ⟨2, c, s, wd, g⟩ by unfold validR; rw [if_neg (show ¬ (2 : Int) = 1 by decide), if_pos (show (2 : Int) = 2 from rfl)]; dsimp only; rw [e1, e2]; simp)
      go_enter Tryd.func21, Tryd.ntmps21
      go_wp2_with (first | (go_at_call 30; refine (refwidth_any _ _).mono ?_; rintro e w' ⟨rfl, rfl⟩) | (go_at_call 31; refine (in_any _ _ _).mono ?_; rintro e w' ⟨rfl, rfl⟩))
      go_ret
      exact ⟨ret_bool HE.out, HB.out⟩
    cases e3 : inB (wid wd) 1
    · have HE := Lib.hid (show false = validR ⟨2, c, s, wd, g⟩ by unfold validR; rw [if_neg (show ¬ (2 : Int) = 1 by decide), if_pos (show (2 : Int) = 2 from rfl)]; dsimp only; rw [e1, e2, e3]; simp)
      go_enter Tryd.func21, Tryd.ntmps21
      go_wp2_with (first | (go_at_call 30; refine (refwidth_any _ _).mono ?_; rintro e w' ⟨rfl, rfl⟩) | (go_at_call 31; refine (in_any _ _ _).mono ?_; rintro e w' ⟨rfl, rfl⟩))
      go_ret
      exact ⟨ret_bool HE.out, HB.out⟩
    have HE := Lib.hid (show inB g 1 = validR ⟨2, c, s, wd, g⟩ by unfold validR; rw [if_neg (show ¬ (2 : Int) = 1 by decide), if_pos (show (2 : Int) = 2 from rfl)]; dsimp only; rw [e1, e2, e3]; rfl)
    go_enter Tryd.func21, Tryd.ntmps21
    go_wp2_with (first | (go_at_call 30; refine (refwidth_any _ _).mono ?_; rintro e w' ⟨rfl, rfl⟩) | (go_at_call 31; refine (in_any _ _ _).mono ?_; rintro e w' ⟨rfl, rfl⟩))
    go_ret
    exact ⟨ret_bool HE.out, HB.out⟩
  by_cases h3 : m = 3
  · subst h3
    clear h1 h2
    by_cases hs0 : s = -9223372036854775808
    · subst hs0
      clear hs
      cases e1 : inB c 9
      · have HE := Lib.hid (show false = validR ⟨3, c, -9223372036854775808, wd, g⟩ from (valid_low (show (-9223372036854775808 : Int) < 1 by decide)).symm)
        have HI := Lib.hid (show inB (wrap64 (-9223372036854775809)) 7 = false by simp [inB, wrap64])
        go_enter Tryd.func21, Tryd.ntmps21
        go_wp2_with (first | (go_at_call 30; refine (refwidth_any _ _).mono ?_; rintro e w' ⟨rfl, rfl⟩) | (go_at_call 31; refine (in_any _ _ _).mono ?_; rintro e w' ⟨rfl, rfl⟩))
        go_ret
        exact ⟨ret_bool HE.out, HB.out⟩
      have HE := Lib.hid (show false = validR ⟨3, c, -9223372036854775808, wd, g⟩ from (valid_low (show (-9223372036854775808 : Int) < 1 by decide)).symm)
      have HI := Lib.hid (show inB (wrap64 (-9223372036854775809)) 7 = false by simp [inB, wrap64])
      have e2 : inB (wrap64 (-9223372036854775809)) 7 = false := HI.out
      go_enter Tryd.func21, Tryd.ntmps21
      go_wp2_with (first | (go_at_call 30; refine (refwidth_any _ _).mono ?_; rintro e w' ⟨rfl, rfl⟩) | (go_at_call 31; refine (in_any _ _ _).mono ?_; rintro e w' ⟨rfl, rfl⟩))
      go_ret
      exact ⟨ret_bool HE.out, HB.out⟩
    have hlo : -9223372036854775808 < s := by omega
    clear hs0
    cases e1 : inB c 9
    · have HE := Lib.hid (show false = validR ⟨3, c, s, wd, g⟩ by unfold validR; rw [if_neg (show ¬ (3 : Int) = 1 by decide), if_neg (show ¬ (3 : Int) = 2 by decide), if_pos (show (3 : Int) = 3 from rfl)]; dsimp only; rw [e1]; simp)
      go_enter Tryd.func21, Tryd.ntmps21
      go_wp2_with (first | (go_at_call 30; refine (refwidth_any _ _).mono ?_; rintro e w' ⟨rfl, rfl⟩) | (go_at_call 31; refine (in_any _ _ _).mono ?_; rintro e w' ⟨rfl, rfl⟩))
      go_ret
      exact ⟨ret_bool HE.out, HB.out⟩
    cases e2 : inB (s - 1) 7
    · have HE := Lib.hid (show false = validR ⟨3, c, s, wd, g⟩ by unfold validR; rw [if_neg (show ¬ (3 : Int) = 1 by decide), if_neg (show ¬ (3 : Int) = 2 by decide), if_pos (show (3 : Int) = 3 from rfl)]; dsimp only; rw [e1, e2]; simp)
      go_enter Tryd.func21, Tryd.ntmps21
      go_wp2_with (first | (go_at_call 30; refine (refwidth_any _ _).mono ?_; rintro e w' ⟨rfl, rfl⟩) | (go_at_call 31; refine (in_any _ _ _).mono ?_; rintro e w' ⟨rfl, rfl⟩))
      go_ret
      exact ⟨ret_bool HE.out, HB.out⟩
    cases e3 : decide (0 ≤ wid wd)
    · have HE := Lib.hid (show false = validR ⟨3, c, s, wd, g⟩ by unfold validR; rw [if_neg (show ¬ (3 : Int) = 1 by decide), if_neg (show ¬ (3 : Int) = 2 by decide), if_pos (show (3 : Int) = 3 from rfl)]; dsimp only; rw [e1, e2, e3]; simp)
      go_enter Tryd.func21, Tryd.ntmps21
      go_wp2_with (first | (go_at_call 30; refine (refwidth_any _ _).mono ?_; rintro e w' ⟨rfl, rfl⟩) | (go_at_call 31; refine (in_any _ _ _).mono ?_; rintro e w' ⟨rfl, rfl⟩))
      go_ret
      exact ⟨ret_bool HE.out, HB.out⟩
    have HE := Lib.hid (show inB g 1 = validR ⟨3, c, s, wd, g⟩ by unfold validR; rw [if_neg (show ¬ (3 : Int) = 1 by decide), if_neg (show ¬ (3 : Int) = 2 by decide), if_pos (show (3 : Int) = 3 from rfl)]; dsimp only; rw [e1, e2, e3]; rfl)
    go_enter Tryd.func21, Tryd.ntmps21
    go_wp2_with (first | (go_at_call 30; refine (refwidth_any _ _).mono ?_; rintro e w' ⟨rfl, rfl⟩) | (go_at_call 31; refine (in_any _ _ _).mono ?_; rintro e w' ⟨rfl, rfl⟩))
    go_ret
    exact ⟨ret_bool HE.out, HB.out⟩
  by_cases h4 : m = 4
  · subst h4
    clear h1 h2 h3
    by_cases hs0 : s = -9223372036854775808
    · subst hs0
      clear hs
      cases e1 : inB c 11
      · have HE := Lib.hid (show false = validR ⟨4, c, -9223372036854775808, wd, g⟩ from (valid_low (show (-9223372036854775808 : Int) < 1 by decide)).symm)
        have HI := Lib.hid (show inB (wrap64 (-9223372036854775809)) 7 = false by simp [inB, wrap64])
        go_enter Tryd.func21, Tryd.ntmps21
        go_wp2_with (first | (go_at_call 30; refine (refwidth_any _ _).mono ?_; rintro e w' ⟨rfl, rfl⟩) | (go_at_call 31; refine (in_any _ _ _).mono ?_; rintro e w' ⟨rfl, rfl⟩))
        go_ret
        exact ⟨ret_bool HE.out, HB.out⟩
      have HE := Lib.hid (show false = validR ⟨4, c, -9223372036854775808, wd, g⟩ from (valid_low (show (-9223372036854775808 : Int) < 1 by decide)).symm)
      have HI := Lib.hid (show inB (wrap64 (-9223372036854775809)) 7 = false by simp [inB, wrap64])
      have e2 : inB (wrap64 (-9223372036854775809)) 7 = false := HI.out
      go_enter Tryd.func21, Tryd.ntmps21
      go_wp2_with (first | (go_at_call 30; refine (refwidth_any _ _).mono ?_; rintro e w' ⟨rfl, rfl⟩) | (go_at_call 31; refine (in_any _ _ _).mono ?_; rintro e w' ⟨rfl, rfl⟩))
      go_ret
      exact ⟨ret_bool HE.out, HB.out⟩
    have hlo : -9223372036854775808 < s := by omega
    clear hs0
    cases e1 : inB c 11
    · have HE := Lib.hid (show false = validR ⟨4, c, s, wd, g⟩ by unfold validR; rw [if_neg (show ¬ (4 : Int) = 1 by decide), if_neg (show ¬ (4 : Int) = 2 by decide), if_neg (show ¬ (4 : Int) = 3 by decide), if_pos (show (4 : Int) = 4 from rfl)]; dsimp only; rw [e1]; simp)
      go_enter Tryd.func21, Tryd.ntmps21
      go_wp2_with (first | (go_at_call 30; refine (refwidth_any _ _).mono ?_; rintro e w' ⟨rfl, rfl⟩) | (go_at_call 31; refine (in_any _ _ _).mono ?_; rintro e w' ⟨rfl, rfl⟩))
      go_ret
      exact ⟨ret_bool HE.out, HB.out⟩
    cases e2 : inB (s - 1) 7
    · have HE := Lib.hid (show false = validR ⟨4, c, s, wd, g⟩ by unfold validR; rw [if_neg (show ¬ (4 : Int) = 1 by decide), if_neg (show ¬ (4 : Int) = 2 by decide), if_neg (show ¬ (4 : Int) = 3 by decide), if_pos (show (4 : Int) = 4 from rfl)]; dsimp only; rw [e1, e2]; simp)
      go_enter Tryd.func21, Tryd.ntmps21
      go_wp2_with (first | (go_at_call 30; refine (refwidth_any _ _).mono ?_; rintro e w' ⟨rfl, rfl⟩) | (go_at_call 31; refine (in_any _ _ _).mono ?_; rintro e w' ⟨rfl, rfl⟩))
      go_ret
      exact ⟨ret_bool HE.out, HB.out⟩
    cases e3 : decide (0 ≤ wid wd)
    · have HE := Lib.hid (show false = validR ⟨4, c, s, wd, g⟩ by unfold validR; rw [if_neg (show ¬ (4 : Int) = 1 by decide), if_neg (show ¬ (4 : Int) = 2 by decide), if_neg (show ¬ (4 : Int) = 3 by decide), if_pos (show (4 : Int) = 4 from rfl)]; dsimp only; rw [e1, e2, e3]; simp)
      go_enter Tryd.func21, Tryd.ntmps21
      go_wp2_with (first | (go_at_call 30; refine (refwidth_any _ _).mono ?_; rintro e w' ⟨rfl, rfl⟩) | (go_at_call 31; refine (in_any _ _ _).mono ?_; rintro e w' ⟨rfl, rfl⟩))
      go_ret
      exact ⟨ret_bool HE.out, HB.out⟩
    have HE := Lib.hid (show inB g 2 = validR ⟨4, c, s, wd, g⟩ by unfold validR; rw [if_neg (show ¬ (4 : Int) = 1 by decide), if_neg (show ¬ (4 : Int) = 2 by decide), if_neg (show ¬ (4 : Int) = 3 by decide), if_pos (show (4 : Int) = 4 from rfl)]; dsimp only; rw [e1, e2, e3]; rfl)
    go_enter Tryd.func21, Tryd.ntmps21
    go_wp2_with (first | (go_at_call 30; refine (refwidth_any _ _).mono ?_; rintro e w' ⟨rfl, rfl⟩) | (go_at_call 31; refine (in_any _ _ _).mono ?_; rintro e w' ⟨rfl, rfl⟩))
    go_ret
    exact ⟨ret_bool HE.out, HB.out⟩
  have HE := Lib.hid (show false = validR ⟨m, c, s, wd, g⟩ from (valid_mode_no h1 h2 h3 h4).symm)
  have e1 : (m == 1) = false := by simpa using h1
  have e2 : (m == 2) = false := by simpa using h2
  have e3 : (m == 3) = false := by simpa using h3
  have e4 : (m == 4) = false := by simpa using h4
  clear h1 h2 h3 h4
  go_enter Tryd.func21, Tryd.ntmps21
  go_wp2_with (first | (go_at_call 30; refine (refwidth_any _ _).mono ?_; rintro e w' ⟨rfl, rfl⟩) | (go_at_call 31; refine (in_any _ _ _).mono ?_; rintro e w' ⟨rfl, rfl⟩))
  go_ret
  exact ⟨ret_bool HE.out, HB.out⟩
set_option maxRecDepth 100000 in
set_option maxHeartbeats 8000000 in
theorem refsym_any (r : Rt) (w : World) (hs : -9223372036854775808 ≤ r.s ∧ r.s ≤ 9223372036854775807) :
    Calls Tryd.prog 26 #[r.val] w fun e w' => e = .returned (.int .i64 (symR r)) ∧ Below w.heap.size w w' := by
  have HB := Lib.hid ((Below.refl w.heap.size w).alloc (Nat.le_refl _) (.cells r.arr 23))
  have HG := Lib.hid (heap_alloc_last w (.cells r.arr 23))
  go_enter Tryd.func26, Tryd.ntmps26
  go_wp2_with (fail)
  generalize World.alloc w _ = w2 at *
  refine (refvalid_any r w2 hs).mono ?_
  rintro e w3 ⟨rfl, hB⟩
  have T0 := Lib.hid (HB.out.trans (hB.mono HB.out.size))
  have T1 := Lib.hid ((hB.block _ (lt_blk HG.out)).trans HG.out)
  clear hB HB HG hs
  have HB := T0
  have HG := T1
  clear T0 T1
  cases hv : validR r
  · have HE := Lib.hid (sym_no hv)
    clear hv
    go_wp2
    go_ret
    exact ⟨ret_int HE.out.symm, HB.out⟩
  obtain ⟨m, c, s, wd, g⟩ := r
  have hm : m = 1 ∨ m = 2 ∨ m = 3 ∨ m = 4 := valid_mode hv
  rcases hm with rfl | rfl | rfl | rfl
  · obtain ⟨-, -, -, hg⟩ := valid_1 hv rfl
    have HE := Lib.hid (sym_at hv)
    clear hv
    dsimp only at hg HE
    subst hg
    have hs0 : w3.cell? ⟨w.heap.size, 0, none⟩ = some (.int .i64 (1)) := rt_cell HG.out 0
    have hs4 : w3.cell? ⟨w.heap.size, 4, none⟩ = some (.int .i64 (0)) := rt_cell HG.out 4
    have ho0_1 := fun (o0 : Obj) => (alloc_old hs0 o0)
    have ho4_1 := fun (o0 : Obj) => (alloc_old hs4 o0)
    go_wp2
    go_ret
    exact ⟨ret_int (by rw [HE.out]; rfl), HB.out⟩
  · obtain ⟨-, -, -, hg⟩ := valid_2 hv rfl
    have HE := Lib.hid (sym_at hv)
    clear hv
    dsimp only at hg HE
    rcases hg with rfl | rfl
    · have hs0 : w3.cell? ⟨w.heap.size, 0, none⟩ = some (.int .i64 (2)) := rt_cell HG.out 0
      have hs4 : w3.cell? ⟨w.heap.size, 4, none⟩ = some (.int .i64 (0)) := rt_cell HG.out 4
      have ho0_1 := fun (o0 : Obj) => (alloc_old hs0 o0)
      have ho4_1 := fun (o0 : Obj) => (alloc_old hs4 o0)
      go_wp2
      go_ret
      exact ⟨ret_int (by rw [HE.out]; rfl), HB.out⟩
    · have hs0 : w3.cell? ⟨w.heap.size, 0, none⟩ = some (.int .i64 (2)) := rt_cell HG.out 0
      have hs4 : w3.cell? ⟨w.heap.size, 4, none⟩ = some (.int .i64 (1)) := rt_cell HG.out 4
      have ho0_1 := fun (o0 : Obj) => (alloc_old hs0 o0)
      have ho4_1 := fun (o0 : Obj) => (alloc_old hs4 o0)
      go_wp2
      go_ret
      exact ⟨ret_int (by rw [HE.out]; rfl), HB.out⟩
  · obtain ⟨-, -, -, hg⟩ := valid_3 hv rfl
    have HE := Lib.hid (sym_at hv)
    clear hv
    dsimp only at hg HE
    rcases hg with rfl | rfl
    · have hs0 : w3.cell? ⟨w.heap.size, 0, none⟩ = some (.int .i64 (3)) := rt_cell HG.out 0
      have hs4 : w3.cell? ⟨w.heap.size, 4, none⟩ = some (.int .i64 (0)) := rt_cell HG.out 4
      have ho0_1 := fun (o0 : Obj) => (alloc_old hs0 o0)
      have ho4_1 := fun (o0 : Obj) => (alloc_old hs4 o0)
      go_wp2
      go_ret
      exact ⟨ret_int (by rw [HE.out]; rfl), HB.out⟩
    · have hs0 : w3.cell? ⟨w.heap.size, 0, none⟩ = some (.int .i64 (3)) := rt_cell HG.out 0
      have hs4 : w3.cell? ⟨w.heap.size, 4, none⟩ = some (.int .i64 (1)) := rt_cell HG.out 4
      have ho0_1 := fun (o0 : Obj) => (alloc_old hs0 o0)
      have ho4_1 := fun (o0 : Obj) => (alloc_old hs4 o0)
      go_wp2
      go_ret
      exact ⟨ret_int (by rw [HE.out]; rfl), HB.out⟩
  · obtain ⟨-, -, -, hg⟩ := valid_4 hv rfl
    have HE := Lib.hid (sym_at hv)
    clear hv
    dsimp only at hg HE
    rcases hg with rfl | rfl | rfl
    · have hs0 : w3.cell? ⟨w.heap.size, 0, none⟩ = some (.int .i64 (4)) := rt_cell HG.out 0
      have hs4 : w3.cell? ⟨w.heap.size, 4, none⟩ = some (.int .i64 (0)) := rt_cell HG.out 4
      have ho0_1 := fun (o0 : Obj) => (alloc_old hs0 o0)
      have ho4_1 := fun (o0 : Obj) => (alloc_old hs4 o0)
      go_wp2
      go_ret
      exact ⟨ret_int (by rw [HE.out]; rfl), HB.out.alloc HB.out.size _⟩
    · have hs0 : w3.cell? ⟨w.heap.size, 0, none⟩ = some (.int .i64 (4)) := rt_cell HG.out 0
      have hs4 : w3.cell? ⟨w.heap.size, 4, none⟩ = some (.int .i64 (1)) := rt_cell HG.out 4
      have ho0_1 := fun (o0 : Obj) => (alloc_old hs0 o0)
      have ho4_1 := fun (o0 : Obj) => (alloc_old hs4 o0)
      go_wp2
      go_ret
      exact ⟨ret_int (by rw [HE.out]; rfl), HB.out.alloc HB.out.size _⟩
    · have hs0 : w3.cell? ⟨w.heap.size, 0, none⟩ = some (.int .i64 (4)) := rt_cell HG.out 0
      have hs4 : w3.cell? ⟨w.heap.size, 4, none⟩ = some (.int .i64 (2)) := rt_cell HG.out 4
      have ho0_1 := fun (o0 : Obj) => (alloc_old hs0 o0)
      have ho4_1 := fun (o0 : Obj) => (alloc_old hs4 o0)
      go_wp2
      go_ret
      exact ⟨ret_int (by rw [HE.out]; rfl), HB.out.alloc HB.out.size _⟩
set_option maxRecDepth 100000 in
set_option maxHeartbeats 8000000 in
theorem refpre_any (r : Rt) (w : World) (hs : -9223372036854775808 ≤ r.s ∧ r.s ≤ 9223372036854775807) :
    Calls Tryd.prog 25 #[r.val] w fun e w' => e = .returned (.int .i64 (preR r)) ∧ Below w.heap.size w w' := by
  have HB := Lib.hid ((Below.refl w.heap.size w).alloc (Nat.le_refl _) (.cells r.arr 23))
  have HG := Lib.hid (heap_alloc_last w (.cells r.arr 23))
  go_enter Tryd.func25, Tryd.ntmps25
  go_wp2_with (fail)
  generalize World.alloc w _ = w2 at *
  refine (refvalid_any r w2 hs).mono ?_
  rintro e w3 ⟨rfl, hB⟩
  have T0 := Lib.hid (HB.out.trans (hB.mono HB.out.size))
  have T1 := Lib.hid ((hB.block _ (lt_blk HG.out)).trans HG.out)
  clear hB HB HG hs
  have HB := T0
  have HG := T1
  clear T0 T1
  cases hv : validR r
  · have HE := Lib.hid (pre_no hv)
    clear hv
    go_wp2
    go_ret
    exact ⟨ret_int HE.out.symm, HB.out⟩
  obtain ⟨m, c, s, wd, g⟩ := r
  have hm : m = 1 ∨ m = 2 ∨ m = 3 ∨ m = 4 := valid_mode hv
  rcases hm with rfl | rfl | rfl | rfl
  · obtain ⟨-, hs, -, -⟩ := valid_1 hv rfl
    have HE := Lib.hid (pre_at hv)
    clear hv
    dsimp only at hs HE
    subst hs
    have hs0 : w3.cell? ⟨w.heap.size, 0, none⟩ = some (.int .i64 (1)) := rt_cell HG.out 0
    have hs2 : w3.cell? ⟨w.heap.size, 2, none⟩ = some (.int .i64 (1)) := rt_cell HG.out 2
    have ho0_1 := fun (o0 : Obj) => (alloc_old hs0 o0)
    have ho2_1 := fun (o0 : Obj) => (alloc_old hs2 o0)
    go_wp2
    go_ret
    exact ⟨ret_int (by rw [HE.out]; rfl), HB.out.alloc HB.out.size _⟩
  · obtain ⟨-, hs, -, -⟩ := valid_2 hv rfl
    have HE := Lib.hid (pre_at hv)
    clear hv
    dsimp only at hs HE
    rcases (by omega : s = 1 ∨ s = 2 ∨ s = 3 ∨ s = 4) with rfl | rfl | rfl | rfl
    · have hs0 : w3.cell? ⟨w.heap.size, 0, none⟩ = some (.int .i64 (2)) := rt_cell HG.out 0
      have hs2 : w3.cell? ⟨w.heap.size, 2, none⟩ = some (.int .i64 (1)) := rt_cell HG.out 2
      have ho0_1 := fun (o0 : Obj) => (alloc_old hs0 o0)
      have ho2_1 := fun (o0 : Obj) => (alloc_old hs2 o0)
      go_wp2
      go_ret
      exact ⟨ret_int (by rw [HE.out]; rfl), HB.out.alloc HB.out.size _⟩
    · have hs0 : w3.cell? ⟨w.heap.size, 0, none⟩ = some (.int .i64 (2)) := rt_cell HG.out 0
      have hs2 : w3.cell? ⟨w.heap.size, 2, none⟩ = some (.int .i64 (2)) := rt_cell HG.out 2
      have ho0_1 := fun (o0 : Obj) => (alloc_old hs0 o0)
      have ho2_1 := fun (o0 : Obj) => (alloc_old hs2 o0)
      go_wp2
      go_ret
      exact ⟨ret_int (by rw [HE.out]; rfl), HB.out.alloc HB.out.size _⟩
    · have hs0 : w3.cell? ⟨w.heap.size, 0, none⟩ = some (.int .i64 (2)) := rt_cell HG.out 0
      have hs2 : w3.cell? ⟨w.heap.size, 2, none⟩ = some (.int .i64 (3)) := rt_cell HG.out 2
      have ho0_1 := fun (o0 : Obj) => (alloc_old hs0 o0)
      have ho2_1 := fun (o0 : Obj) => (alloc_old hs2 o0)
      go_wp2
      go_ret
      exact ⟨ret_int (by rw [HE.out]; rfl), HB.out.alloc HB.out.size _⟩
    · have hs0 : w3.cell? ⟨w.heap.size, 0, none⟩ = some (.int .i64 (2)) := rt_cell HG.out 0
      have hs2 : w3.cell? ⟨w.heap.size, 2, none⟩ = some (.int .i64 (4)) := rt_cell HG.out 2
      have ho0_1 := fun (o0 : Obj) => (alloc_old hs0 o0)
      have ho2_1 := fun (o0 : Obj) => (alloc_old hs2 o0)
      go_wp2
      go_ret
      exact ⟨ret_int (by rw [HE.out]; rfl), HB.out.alloc HB.out.size _⟩
  · obtain ⟨-, hs, -, -⟩ := valid_3 hv rfl
    have HE := Lib.hid (pre_at hv)
    clear hv
    dsimp only at hs HE
    rcases (by omega : s = 1 ∨ s = 2 ∨ s = 3 ∨ s = 4 ∨ s = 5 ∨ s = 6 ∨ s = 7 ∨ s = 8) with rfl | rfl | rfl | rfl | rfl | rfl | rfl | rfl
    · have hs0 : w3.cell? ⟨w.heap.size, 0, none⟩ = some (.int .i64 (3)) := rt_cell HG.out 0
      have hs2 : w3.cell? ⟨w.heap.size, 2, none⟩ = some (.int .i64 (1)) := rt_cell HG.out 2
      have ho0_1 := fun (o0 : Obj) => (alloc_old hs0 o0)
      have ho2_1 := fun (o0 : Obj) => (alloc_old hs2 o0)
      go_wp2
      go_ret
      exact ⟨ret_int (by rw [HE.out]; rfl), HB.out.alloc HB.out.size _⟩
    · have hs0 : w3.cell? ⟨w.heap.size, 0, none⟩ = some (.int .i64 (3)) := rt_cell HG.out 0
      have hs2 : w3.cell? ⟨w.heap.size, 2, none⟩ = some (.int .i64 (2)) := rt_cell HG.out 2
      have ho0_1 := fun (o0 : Obj) => (alloc_old hs0 o0)
      have ho2_1 := fun (o0 : Obj) => (alloc_old hs2 o0)
      go_wp2
      go_ret
      exact ⟨ret_int (by rw [HE.out]; rfl), HB.out.alloc HB.out.size _⟩
    · have hs0 : w3.cell? ⟨w.heap.size, 0, none⟩ = some (.int .i64 (3)) := rt_cell HG.out 0
      have hs2 : w3.cell? ⟨w.heap.size, 2, none⟩ = some (.int .i64 (3)) := rt_cell HG.out 2
      have ho0_1 := fun (o0 : Obj) => (alloc_old hs0 o0)
      have ho2_1 := fun (o0 : Obj) => (alloc_old hs2 o0)
      go_wp2
      go_ret
      exact ⟨ret_int (by rw [HE.out]; rfl), HB.out.alloc HB.out.size _⟩
    · have hs0 : w3.cell? ⟨w.heap.size, 0, none⟩ = some (.int .i64 (3)) := rt_cell HG.out 0
      have hs2 : w3.cell? ⟨w.heap.size, 2, none⟩ = some (.int .i64 (4)) := rt_cell HG.out 2
      have ho0_1 := fun (o0 : Obj) => (alloc_old hs0 o0)
      have ho2_1 := fun (o0 : Obj) => (alloc_old hs2 o0)
      go_wp2
      go_ret
      exact ⟨ret_int (by rw [HE.out]; rfl), HB.out.alloc HB.out.size _⟩
    · have hs0 : w3.cell? ⟨w.heap.size, 0, none⟩ = some (.int .i64 (3)) := rt_cell HG.out 0
      have hs2 : w3.cell? ⟨w.heap.size, 2, none⟩ = some (.int .i64 (5)) := rt_cell HG.out 2
      have ho0_1 := fun (o0 : Obj) => (alloc_old hs0 o0)
      have ho2_1 := fun (o0 : Obj) => (alloc_old hs2 o0)
      go_wp2
      go_ret
      exact ⟨ret_int (by rw [HE.out]; rfl), HB.out.alloc HB.out.size _⟩
    · have hs0 : w3.cell? ⟨w.heap.size, 0, none⟩ = some (.int .i64 (3)) := rt_cell HG.out 0
      have hs2 : w3.cell? ⟨w.heap.size, 2, none⟩ = some (.int .i64 (6)) := rt_cell HG.out 2
      have ho0_1 := fun (o0 : Obj) => (alloc_old hs0 o0)
      have ho2_1 := fun (o0 : Obj) => (alloc_old hs2 o0)
      go_wp2
      go_ret
      exact ⟨ret_int (by rw [HE.out]; rfl), HB.out.alloc HB.out.size _⟩
    · have hs0 : w3.cell? ⟨w.heap.size, 0, none⟩ = some (.int .i64 (3)) := rt_cell HG.out 0
      have hs2 : w3.cell? ⟨w.heap.size, 2, none⟩ = some (.int .i64 (7)) := rt_cell HG.out 2
      have ho0_1 := fun (o0 : Obj) => (alloc_old hs0 o0)
      have ho2_1 := fun (o0 : Obj) => (alloc_old hs2 o0)
      go_wp2
      go_ret
      exact ⟨ret_int (by rw [HE.out]; rfl), HB.out.alloc HB.out.size _⟩
    · have hs0 : w3.cell? ⟨w.heap.size, 0, none⟩ = some (.int .i64 (3)) := rt_cell HG.out 0
      have hs2 : w3.cell? ⟨w.heap.size, 2, none⟩ = some (.int .i64 (8)) := rt_cell HG.out 2
      have ho0_1 := fun (o0 : Obj) => (alloc_old hs0 o0)
      have ho2_1 := fun (o0 : Obj) => (alloc_old hs2 o0)
      go_wp2
      go_ret
      exact ⟨ret_int (by rw [HE.out]; rfl), HB.out.alloc HB.out.size _⟩
  · obtain ⟨-, hs, -, -⟩ := valid_4 hv rfl
    have HE := Lib.hid (pre_at hv)
    clear hv
    dsimp only at hs HE
    rcases (by omega : s = 1 ∨ s = 2 ∨ s = 3 ∨ s = 4 ∨ s = 5 ∨ s = 6 ∨ s = 7 ∨ s = 8) with rfl | rfl | rfl | rfl | rfl | rfl | rfl | rfl
    · have hs0 : w3.cell? ⟨w.heap.size, 0, none⟩ = some (.int .i64 (4)) := rt_cell HG.out 0
      have hs2 : w3.cell? ⟨w.heap.size, 2, none⟩ = some (.int .i64 (1)) := rt_cell HG.out 2
      have ho0_1 := fun (o0 : Obj) => (alloc_old hs0 o0)
      have ho2_1 := fun (o0 : Obj) => (alloc_old hs2 o0)
      go_wp2
      go_ret
      exact ⟨ret_int (by rw [HE.out]; rfl), HB.out.alloc HB.out.size _⟩
    · have hs0 : w3.cell? ⟨w.heap.size, 0, none⟩ = some (.int .i64 (4)) := rt_cell HG.out 0
      have hs2 : w3.cell? ⟨w.heap.size, 2, none⟩ = some (.int .i64 (2)) := rt_cell HG.out 2
      have ho0_1 := fun (o0 : Obj) => (alloc_old hs0 o0)
      have ho2_1 := fun (o0 : Obj) => (alloc_old hs2 o0)
      go_wp2
      go_ret
      exact ⟨ret_int (by rw [HE.out]; rfl), HB.out.alloc HB.out.size _⟩
    · have hs0 : w3.cell? ⟨w.heap.size, 0, none⟩ = some (.int .i64 (4)) := rt_cell HG.out 0
      have hs2 : w3.cell? ⟨w.heap.size, 2, none⟩ = some (.int .i64 (3)) := rt_cell HG.out 2
      have ho0_1 := fun (o0 : Obj) => (alloc_old hs0 o0)
      have ho2_1 := fun (o0 : Obj) => (alloc_old hs2 o0)
      go_wp2
      go_ret
      exact ⟨ret_int (by rw [HE.out]; rfl), HB.out.alloc HB.out.size _⟩
    · have hs0 : w3.cell? ⟨w.heap.size, 0, none⟩ = some (.int .i64 (4)) := rt_cell HG.out 0
      have hs2 : w3.cell? ⟨w.heap.size, 2, none⟩ = some (.int .i64 (4)) := rt_cell HG.out 2
      have ho0_1 := fun (o0 : Obj) => (alloc_old hs0 o0)
      have ho2_1 := fun (o0 : Obj) => (alloc_old hs2 o0)
      go_wp2
      go_ret
      exact ⟨ret_int (by rw [HE.out]; rfl), HB.out.alloc HB.out.size _⟩
    · have hs0 : w3.cell? ⟨w.heap.size, 0, none⟩ = some (.int .i64 (4)) := rt_cell HG.out 0
      have hs2 : w3.cell? ⟨w.heap.size, 2, none⟩ = some (.int .i64 (5)) := rt_cell HG.out 2
      have ho0_1 := fun (o0 : Obj) => (alloc_old hs0 o0)
      have ho2_1 := fun (o0 : Obj) => (alloc_old hs2 o0)
      go_wp2
      go_ret
      exact ⟨ret_int (by rw [HE.out]; rfl), HB.out.alloc HB.out.size _⟩
    · have hs0 : w3.cell? ⟨w.heap.size, 0, none⟩ = some (.int .i64 (4)) := rt_cell HG.out 0
      have hs2 : w3.cell? ⟨w.heap.size, 2, none⟩ = some (.int .i64 (6)) := rt_cell HG.out 2
      have ho0_1 := fun (o0 : Obj) => (alloc_old hs0 o0)
      have ho2_1 := fun (o0 : Obj) => (alloc_old hs2 o0)
      go_wp2
      go_ret
      exact ⟨ret_int (by rw [HE.out]; rfl), HB.out.alloc HB.out.size _⟩
    · have hs0 : w3.cell? ⟨w.heap.size, 0, none⟩ = some (.int .i64 (4)) := rt_cell HG.out 0
      have hs2 : w3.cell? ⟨w.heap.size, 2, none⟩ = some (.int .i64 (7)) := rt_cell HG.out 2
      have ho0_1 := fun (o0 : Obj) => (alloc_old hs0 o0)
      have ho2_1 := fun (o0 : Obj) => (alloc_old hs2 o0)
      go_wp2
      go_ret
      exact ⟨ret_int (by rw [HE.out]; rfl), HB.out.alloc HB.out.size _⟩
    · have hs0 : w3.cell? ⟨w.heap.size, 0, none⟩ = some (.int .i64 (4)) := rt_cell HG.out 0
      have hs2 : w3.cell? ⟨w.heap.size, 2, none⟩ = some (.int .i64 (8)) := rt_cell HG.out 2
      have ho0_1 := fun (o0 : Obj) => (alloc_old hs0 o0)
      have ho2_1 := fun (o0 : Obj) => (alloc_old hs2 o0)
      go_wp2
      go_ret
      exact ⟨ret_int (by rw [HE.out]; rfl), HB.out.alloc HB.out.size _⟩
end Go.Proofs.YtlkoleannlpflaaDoor
