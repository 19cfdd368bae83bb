/-
  CONTRACTS of package rate: Valid, Bits, Symbol, Preamble: each in one, of whatever rate.
-/
import Derived.Test.YtlkoleannlpflaaDoorRateB
namespace Go.Proofs.YtlkoleannlpflaaDoor
open Go.ChangeShapes Go.WideShapes Go.ChangeAt Go.RowKit
set_option linter.unusedVariables false
set_option linter.unusedSimpArgs false


/-! ### what may be, mode by mode -/
theorem valid_1 {r : Rt} (h : validR r = true) (hm : r.m = 1) : (0 ≤ r.c ∧ r.c ≤ 7) ∧ r.s = 1 ∧ r.w = 20 ∧ r.g = 0 := by
  unfold validR at h
  rw [if_pos hm] at h
  simp only [Bool.and_eq_true, inB_iff, beq_iff_eq] at h
  refine ⟨h.1.1.1, h.1.1.2, ?_, h.2⟩
  have := wid_of (w := r.w) (by omega)
  rw [h.1.2] at this
  simpa using this
theorem wid_two {w : Int} (h0 : 0 ≤ wid w) (h1 : wid w ≤ 1) : w = 20 ∨ w = 40 := by
  have := wid_of h0
  rcases (by omega : wid w = 0 ∨ wid w = 1) with e | e <;> (rw [e] at this; simp at this; omega)
theorem wid_four {w : Int} (h0 : 0 ≤ wid w) : w = 20 ∨ w = 40 ∨ w = 80 ∨ w = 160 := by
  have h1 := wid_of h0
  have h2 := (wid_lo w).2
  generalize wid w = q at *
  rcases (by omega : q = 0 ∨ q = 1 ∨ q = 2 ∨ q = 3) with e | e | e | e <;> (subst e; simp at h1; omega)
theorem valid_2 {r : Rt} (h : validR r = true) (hm : r.m = 2) : (0 ≤ r.c ∧ r.c ≤ 7) ∧ (1 ≤ r.s ∧ r.s ≤ 4) ∧ (r.w = 20 ∨ r.w = 40) ∧ (r.g = 0 ∨ r.g = 1) := by
  unfold validR at h
  rw [if_neg (by omega), if_pos hm] at h
  simp only [Bool.and_eq_true, inB_iff] at h
  exact ⟨h.1.1.1, by omega, wid_two h.1.2.1 h.1.2.2, by omega⟩
theorem valid_3 {r : Rt} (h : validR r = true) (hm : r.m = 3) : (0 ≤ r.c ∧ r.c ≤ 9) ∧ (1 ≤ r.s ∧ r.s ≤ 8) ∧ (r.w = 20 ∨ r.w = 40 ∨ r.w = 80 ∨ r.w = 160) ∧ (r.g = 0 ∨ r.g = 1) := by
  unfold validR at h
  rw [if_neg (by omega), if_neg (by omega), if_pos hm] at h
  simp only [Bool.and_eq_true, inB_iff, decide_eq_true_eq] at h
  exact ⟨h.1.1.1, by omega, wid_four h.1.2, by omega⟩
theorem valid_4 {r : Rt} (h : validR r = true) (hm : r.m = 4) : (0 ≤ r.c ∧ r.c ≤ 11) ∧ (1 ≤ r.s ∧ r.s ≤ 8) ∧ (r.w = 20 ∨ r.w = 40 ∨ r.w = 80 ∨ r.w = 160) ∧ (r.g = 0 ∨ r.g = 1 ∨ r.g = 2) := by
  unfold validR at h
  rw [if_neg (by omega), if_neg (by omega), if_neg (by omega), if_pos hm] at h
  simp only [Bool.and_eq_true, inB_iff, decide_eq_true_eq] at h
  exact ⟨h.1.1.1, by omega, wid_four h.1.2, by omega⟩
theorem sym_at {r : Rt} (h : validR r = true) : symR r = if r.m = 4 then [160, 144, 136].getD r.g.toNat 0 else if r.m ≠ 1 ∧ r.g = 1 then 36 else 40 := by unfold symR; rw [if_pos h]
theorem sym_no {r : Rt} (h : validR r = false) : symR r = 0 := by unfold symR; rw [h]; rfl
theorem bits_no {r : Rt} (h : validR r = false) : bitsR r = 0 := by unfold bitsR; rw [h]; rfl
theorem pre_no {r : Rt} (h : validR r = false) : preR r = 0 := by unfold preR; rw [h]; rfl
theorem bits_at {r : Rt} (h : validR r = true) : bitsR r = if r.m = 1 then [24, 36, 48, 72, 96, 144, 192, 216].getD r.c.toNat 0 else carR r * perR r.c * r.s * upR r.c / downR r.c := by unfold bitsR; rw [if_pos h]
theorem pre_at {r : Rt} (h : validR r = true) : preR r = if r.m = 1 then 200 else if r.m = 2 then 320 + 40 * trainR r.s else if r.m = 3 then 360 + 40 * trainR r.s else 360 + 80 * trainR r.s := by unfold preR; rw [if_pos h]
theorem kindOf_1 (w : World) :
    Calls Tryd.prog 27 #[.int .i64 1] w fun e w' => e = .returned (.agg #[.int .i64 8, .int .i64 1, .int .i64 1, .int .i64 1, .int .i64 0, .int .i64 0, .int .i64 0, .int .i64 0, .int .i64 40, .int .i64 0, .int .i64 0, .int .i64 200, .int .i64 0]) ∧ Below w.heap.size w w' := kindOf_any 1 w
theorem kindOf_2 (w : World) :
    Calls Tryd.prog 27 #[.int .i64 2] w fun e w' => e = .returned (.agg #[.int .i64 8, .int .i64 4, .int .i64 2, .int .i64 2, .int .i64 52, .int .i64 108, .int .i64 0, .int .i64 0, .int .i64 40, .int .i64 36, .int .i64 0, .int .i64 320, .int .i64 40]) ∧ Below w.heap.size w w' := kindOf_any 2 w
theorem kindOf_3 (w : World) :
    Calls Tryd.prog 27 #[.int .i64 3] w fun e w' => e = .returned (.agg #[.int .i64 10, .int .i64 8, .int .i64 4, .int .i64 2, .int .i64 52, .int .i64 108, .int .i64 234, .int .i64 468, .int .i64 40, .int .i64 36, .int .i64 0, .int .i64 360, .int .i64 40]) ∧ Below w.heap.size w w' := kindOf_any 3 w
theorem kindOf_4 (w : World) :
    Calls Tryd.prog 27 #[.int .i64 4] w fun e w' => e = .returned (.agg #[.int .i64 12, .int .i64 8, .int .i64 4, .int .i64 3, .int .i64 234, .int .i64 468, .int .i64 980, .int .i64 1960, .int .i64 160, .int .i64 144, .int .i64 136, .int .i64 360, .int .i64 80]) ∧ Below w.heap.size w w' := kindOf_any 4 w
theorem field5_1 (w' : World) : (Instr.field 54 (.agg #[.int .i64 8, .int .i64 1, .int .i64 1, .int .i64 1, .int .i64 0, .int .i64 0, .int .i64 0, .int .i64 0, .int .i64 40, .int .i64 0, .int .i64 0, .int .i64 200, .int .i64 0]) 5).run Tryd.prog w' = .ok (.agg #[.int .i64 40, .int .i64 0, .int .i64 0]) w' := by kernel_rfl
theorem field4_1 (w' : World) : (Instr.field 54 (.agg #[.int .i64 8, .int .i64 1, .int .i64 1, .int .i64 1, .int .i64 0, .int .i64 0, .int .i64 0, .int .i64 0, .int .i64 40, .int .i64 0, .int .i64 0, .int .i64 200, .int .i64 0]) 4).run Tryd.prog w' = .ok (.agg #[.int .i64 0, .int .i64 0, .int .i64 0, .int .i64 0]) w' := by kernel_rfl
theorem sym_1_0 (w' : World) : (Instr.index 52 (.agg #[.int .i64 40, .int .i64 0, .int .i64 0]) (.int .i64 0)).run Tryd.prog w' = .ok (.int .i64 40) w' := by kernel_rfl
theorem sym_1_1 (w' : World) : (Instr.index 52 (.agg #[.int .i64 40, .int .i64 0, .int .i64 0]) (.int .i64 1)).run Tryd.prog w' = .ok (.int .i64 0) w' := by kernel_rfl
theorem sym_1_2 (w' : World) : (Instr.index 52 (.agg #[.int .i64 40, .int .i64 0, .int .i64 0]) (.int .i64 2)).run Tryd.prog w' = .ok (.int .i64 0) w' := by kernel_rfl
theorem car_1_0 (w' : World) : (Instr.index 51 (.agg #[.int .i64 0, .int .i64 0, .int .i64 0, .int .i64 0]) (.int .i64 0)).run Tryd.prog w' = .ok (.int .i64 0) w' := by kernel_rfl
theorem car_1_1 (w' : World) : (Instr.index 51 (.agg #[.int .i64 0, .int .i64 0, .int .i64 0, .int .i64 0]) (.int .i64 1)).run Tryd.prog w' = .ok (.int .i64 0) w' := by kernel_rfl
theorem car_1_2 (w' : World) : (Instr.index 51 (.agg #[.int .i64 0, .int .i64 0, .int .i64 0, .int .i64 0]) (.int .i64 2)).run Tryd.prog w' = .ok (.int .i64 0) w' := by kernel_rfl
theorem car_1_3 (w' : World) : (Instr.index 51 (.agg #[.int .i64 0, .int .i64 0, .int .i64 0, .int .i64 0]) (.int .i64 3)).run Tryd.prog w' = .ok (.int .i64 0) w' := by kernel_rfl
theorem field5_2 (w' : World) : (Instr.field 54 (.agg #[.int .i64 8, .int .i64 4, .int .i64 2, .int .i64 2, .int .i64 52, .int .i64 108, .int .i64 0, .int .i64 0, .int .i64 40, .int .i64 36, .int .i64 0, .int .i64 320, .int .i64 40]) 5).run Tryd.prog w' = .ok (.agg #[.int .i64 40, .int .i64 36, .int .i64 0]) w' := by kernel_rfl
theorem field4_2 (w' : World) : (Instr.field 54 (.agg #[.int .i64 8, .int .i64 4, .int .i64 2, .int .i64 2, .int .i64 52, .int .i64 108, .int .i64 0, .int .i64 0, .int .i64 40, .int .i64 36, .int .i64 0, .int .i64 320, .int .i64 40]) 4).run Tryd.prog w' = .ok (.agg #[.int .i64 52, .int .i64 108, .int .i64 0, .int .i64 0]) w' := by kernel_rfl
theorem sym_2_0 (w' : World) : (Instr.index 52 (.agg #[.int .i64 40, .int .i64 36, .int .i64 0]) (.int .i64 0)).run Tryd.prog w' = .ok (.int .i64 40) w' := by kernel_rfl
theorem sym_2_1 (w' : World) : (Instr.index 52 (.agg #[.int .i64 40, .int .i64 36, .int .i64 0]) (.int .i64 1)).run Tryd.prog w' = .ok (.int .i64 36) w' := by kernel_rfl
theorem sym_2_2 (w' : World) : (Instr.index 52 (.agg #[.int .i64 40, .int .i64 36, .int .i64 0]) (.int .i64 2)).run Tryd.prog w' = .ok (.int .i64 0) w' := by kernel_rfl
theorem car_2_0 (w' : World) : (Instr.index 51 (.agg #[.int .i64 52, .int .i64 108, .int .i64 0, .int .i64 0]) (.int .i64 0)).run Tryd.prog w' = .ok (.int .i64 52) w' := by kernel_rfl
theorem car_2_1 (w' : World) : (Instr.index 51 (.agg #[.int .i64 52, .int .i64 108, .int .i64 0, .int .i64 0]) (.int .i64 1)).run Tryd.prog w' = .ok (.int .i64 108) w' := by kernel_rfl
theorem car_2_2 (w' : World) : (Instr.index 51 (.agg #[.int .i64 52, .int .i64 108, .int .i64 0, .int .i64 0]) (.int .i64 2)).run Tryd.prog w' = .ok (.int .i64 0) w' := by kernel_rfl
theorem car_2_3 (w' : World) : (Instr.index 51 (.agg #[.int .i64 52, .int .i64 108, .int .i64 0, .int .i64 0]) (.int .i64 3)).run Tryd.prog w' = .ok (.int .i64 0) w' := by kernel_rfl
theorem field5_3 (w' : World) : (Instr.field 54 (.agg #[.int .i64 10, .int .i64 8, .int .i64 4, .int .i64 2, .int .i64 52, .int .i64 108, .int .i64 234, .int .i64 468, .int .i64 40, .int .i64 36, .int .i64 0, .int .i64 360, .int .i64 40]) 5).run Tryd.prog w' = .ok (.agg #[.int .i64 40, .int .i64 36, .int .i64 0]) w' := by kernel_rfl
theorem field4_3 (w' : World) : (Instr.field 54 (.agg #[.int .i64 10, .int .i64 8, .int .i64 4, .int .i64 2, .int .i64 52, .int .i64 108, .int .i64 234, .int .i64 468, .int .i64 40, .int .i64 36, .int .i64 0, .int .i64 360, .int .i64 40]) 4).run Tryd.prog w' = .ok (.agg #[.int .i64 52, .int .i64 108, .int .i64 234, .int .i64 468]) w' := by kernel_rfl
theorem sym_3_0 (w' : World) : (Instr.index 52 (.agg #[.int .i64 40, .int .i64 36, .int .i64 0]) (.int .i64 0)).run Tryd.prog w' = .ok (.int .i64 40) w' := by kernel_rfl
theorem sym_3_1 (w' : World) : (Instr.index 52 (.agg #[.int .i64 40, .int .i64 36, .int .i64 0]) (.int .i64 1)).run Tryd.prog w' = .ok (.int .i64 36) w' := by kernel_rfl
theorem sym_3_2 (w' : World) : (Instr.index 52 (.agg #[.int .i64 40, .int .i64 36, .int .i64 0]) (.int .i64 2)).run Tryd.prog w' = .ok (.int .i64 0) w' := by kernel_rfl
theorem car_3_0 (w' : World) : (Instr.index 51 (.agg #[.int .i64 52, .int .i64 108, .int .i64 234, .int .i64 468]) (.int .i64 0)).run Tryd.prog w' = .ok (.int .i64 52) w' := by kernel_rfl
theorem car_3_1 (w' : World) : (Instr.index 51 (.agg #[.int .i64 52, .int .i64 108, .int .i64 234, .int .i64 468]) (.int .i64 1)).run Tryd.prog w' = .ok (.int .i64 108) w' := by kernel_rfl
theorem car_3_2 (w' : World) : (Instr.index 51 (.agg #[.int .i64 52, .int .i64 108, .int .i64 234, .int .i64 468]) (.int .i64 2)).run Tryd.prog w' = .ok (.int .i64 234) w' := by kernel_rfl
theorem car_3_3 (w' : World) : (Instr.index 51 (.agg #[.int .i64 52, .int .i64 108, .int .i64 234, .int .i64 468]) (.int .i64 3)).run Tryd.prog w' = .ok (.int .i64 468) w' := by kernel_rfl
theorem field5_4 (w' : World) : (Instr.field 54 (.agg #[.int .i64 12, .int .i64 8, .int .i64 4, .int .i64 3, .int .i64 234, .int .i64 468, .int .i64 980, .int .i64 1960, .int .i64 160, .int .i64 144, .int .i64 136, .int .i64 360, .int .i64 80]) 5).run Tryd.prog w' = .ok (.agg #[.int .i64 160, .int .i64 144, .int .i64 136]) w' := by kernel_rfl
theorem field4_4 (w' : World) : (Instr.field 54 (.agg #[.int .i64 12, .int .i64 8, .int .i64 4, .int .i64 3, .int .i64 234, .int .i64 468, .int .i64 980, .int .i64 1960, .int .i64 160, .int .i64 144, .int .i64 136, .int .i64 360, .int .i64 80]) 4).run Tryd.prog w' = .ok (.agg #[.int .i64 234, .int .i64 468, .int .i64 980, .int .i64 1960]) w' := by kernel_rfl
theorem sym_4_0 (w' : World) : (Instr.index 52 (.agg #[.int .i64 160, .int .i64 144, .int .i64 136]) (.int .i64 0)).run Tryd.prog w' = .ok (.int .i64 160) w' := by kernel_rfl
theorem sym_4_1 (w' : World) : (Instr.index 52 (.agg #[.int .i64 160, .int .i64 144, .int .i64 136]) (.int .i64 1)).run Tryd.prog w' = .ok (.int .i64 144) w' := by kernel_rfl
theorem sym_4_2 (w' : World) : (Instr.index 52 (.agg #[.int .i64 160, .int .i64 144, .int .i64 136]) (.int .i64 2)).run Tryd.prog w' = .ok (.int .i64 136) w' := by kernel_rfl
theorem car_4_0 (w' : World) : (Instr.index 51 (.agg #[.int .i64 234, .int .i64 468, .int .i64 980, .int .i64 1960]) (.int .i64 0)).run Tryd.prog w' = .ok (.int .i64 234) w' := by kernel_rfl
theorem car_4_1 (w' : World) : (Instr.index 51 (.agg #[.int .i64 234, .int .i64 468, .int .i64 980, .int .i64 1960]) (.int .i64 1)).run Tryd.prog w' = .ok (.int .i64 468) w' := by kernel_rfl
theorem car_4_2 (w' : World) : (Instr.index 51 (.agg #[.int .i64 234, .int .i64 468, .int .i64 980, .int .i64 1960]) (.int .i64 2)).run Tryd.prog w' = .ok (.int .i64 980) w' := by kernel_rfl
theorem car_4_3 (w' : World) : (Instr.index 51 (.agg #[.int .i64 234, .int .i64 468, .int .i64 980, .int .i64 1960]) (.int .i64 3)).run Tryd.prog w' = .ok (.int .i64 1960) w' := by kernel_rfl
theorem train_in {n : Int} (h0 : 1 ≤ n) (h8 : n ≤ 8) : 1 ≤ trainR n ∧ trainR n ≤ 8 := by
  rcases (by omega : n = 1 ∨ n = 2 ∨ n = 3 ∨ n = 4 ∨ n = 5 ∨ n = 6 ∨ n = 7 ∨ n = 8) with rfl | rfl | rfl | rfl | rfl | rfl | rfl | rfl <;> decide
set_option maxRecDepth 100000 in
set_option maxHeartbeats 8000000 in
theorem sym_any (r : Rt) (w : World) :
    Calls Tryd.prog 36 #[r.val] w fun e w' => e = .returned (.int .i64 (symR r)) ∧ Below w.heap.size w w' := by
  have HB := Lib.hid ((Below.refl w.heap.size w).alloc (Nat.le_refl _) (.cells r.arr 23))
  have HG := Lib.hid (heap_alloc_last w (.cells r.arr 23))
  go_enter Tryd.func36, Tryd.ntmps36
  go_wp2_with (fail)
  generalize World.alloc w _ = w2 at *
  refine (valid_any r w2).mono ?_
  rintro e w3 ⟨rfl, hB⟩
  have T0 := Lib.hid (HB.out.trans (hB.mono HB.out.size))
  have T1 := Lib.hid ((hB.block _ (lt_blk HG.out)).trans HG.out)
  clear hB HB HG
  have HB := T0
  have HG := T1
  clear T0 T1
  cases hv : validR r
  · have HE := Lib.hid (sym_no hv)
    clear hv
    go_wp2
    go_ret
    exact ⟨ret_int HE.out.symm, HB.out⟩
  obtain ⟨m, c, s, wd, g⟩ := r
  have hm : m = 1 ∨ m = 2 ∨ m = 3 ∨ m = 4 := valid_mode hv
  rcases hm with rfl | rfl | rfl | rfl
  · obtain ⟨-, -, -, hg⟩ := valid_1 hv rfl
    have HE := Lib.hid (sym_at hv)
    clear hv
    dsimp only at hg HE
    subst hg
    have hr0 : ∀ d os, (Go.Sort.grow (redrawn w3 d) os).cell? ⟨w.heap.size, 0, none⟩ = some (.int .i64 (1)) := fun d os => rt_cell (block_regrown HG.out d os) 0
    have hr4 : ∀ d os, (Go.Sort.grow (redrawn w3 d) os).cell? ⟨w.heap.size, 4, none⟩ = some (.int .i64 (0)) := fun d os => rt_cell (block_regrown HG.out d os) 4
    have hf := field5_1
    have hi := sym_1_0
    go_wp2_with (fail)
    refine wp_region_quiet_below (by kernel_rfl) (by kernel_rfl) ?_
    repeat (quiet_step (first | (go_at_call 27; exact Calls.rg (kindOf_1 _))))
    refine wpQuiet_nil ?_
    rintro _ ⟨⟨dq, osq⟩, rfl⟩
    have hB := below_regrown w3 dq osq
    generalize Go.Sort.grow (redrawn w3 dq) osq = w4 at *
    have T0 := Lib.hid (HB.out.trans (hB.mono HB.out.size))
    clear hB HB HG hr0 hr4 hf hi
    go_wp2
    go_ret
    exact ⟨ret_int (by rw [HE.out]; rfl), T0.out⟩
  · obtain ⟨-, -, -, hg⟩ := valid_2 hv rfl
    have HE := Lib.hid (sym_at hv)
    clear hv
    dsimp only at hg HE
    rcases hg with rfl | rfl
    · have hr0 : ∀ d os, (Go.Sort.grow (redrawn w3 d) os).cell? ⟨w.heap.size, 0, none⟩ = some (.int .i64 (2)) := fun d os => rt_cell (block_regrown HG.out d os) 0
      have hr4 : ∀ d os, (Go.Sort.grow (redrawn w3 d) os).cell? ⟨w.heap.size, 4, none⟩ = some (.int .i64 (0)) := fun d os => rt_cell (block_regrown HG.out d os) 4
      have hf := field5_2
      have hi := sym_2_0
      go_wp2_with (fail)
      refine wp_region_quiet_below (by kernel_rfl) (by kernel_rfl) ?_
      repeat (quiet_step (first | (go_at_call 27; exact Calls.rg (kindOf_2 _))))
      refine wpQuiet_nil ?_
      rintro _ ⟨⟨dq, osq⟩, rfl⟩
      have hB := below_regrown w3 dq osq
      generalize Go.Sort.grow (redrawn w3 dq) osq = w4 at *
      have T0 := Lib.hid (HB.out.trans (hB.mono HB.out.size))
      clear hB HB HG hr0 hr4 hf hi
      go_wp2
      go_ret
      exact ⟨ret_int (by rw [HE.out]; rfl), T0.out⟩
    · have hr0 : ∀ d os, (Go.Sort.grow (redrawn w3 d) os).cell? ⟨w.heap.size, 0, none⟩ = some (.int .i64 (2)) := fun d os => rt_cell (block_regrown HG.out d os) 0
      have hr4 : ∀ d os, (Go.Sort.grow (redrawn w3 d) os).cell? ⟨w.heap.size, 4, none⟩ = some (.int .i64 (1)) := fun d os => rt_cell (block_regrown HG.out d os) 4
      have hf := field5_2
      have hi := sym_2_1
      go_wp2_with (fail)
      refine wp_region_quiet_below (by kernel_rfl) (by kernel_rfl) ?_
      repeat (quiet_step (first | (go_at_call 27; exact Calls.rg (kindOf_2 _))))
      refine wpQuiet_nil ?_
      rintro _ ⟨⟨dq, osq⟩, rfl⟩
      have hB := below_regrown w3 dq osq
      generalize Go.Sort.grow (redrawn w3 dq) osq = w4 at *
      have T0 := Lib.hid (HB.out.trans (hB.mono HB.out.size))
      clear hB HB HG hr0 hr4 hf hi
      go_wp2
      go_ret
      exact ⟨ret_int (by rw [HE.out]; rfl), T0.out⟩
  · obtain ⟨-, -, -, hg⟩ := valid_3 hv rfl
    have HE := Lib.hid (sym_at hv)
    clear hv
    dsimp only at hg HE
    rcases hg with rfl | rfl
    · have hr0 : ∀ d os, (Go.Sort.grow (redrawn w3 d) os).cell? ⟨w.heap.size, 0, none⟩ = some (.int .i64 (3)) := fun d os => rt_cell (block_regrown HG.out d os) 0
      have hr4 : ∀ d os, (Go.Sort.grow (redrawn w3 d) os).cell? ⟨w.heap.size, 4, none⟩ = some (.int .i64 (0)) := fun d os => rt_cell (block_regrown HG.out d os) 4
      have hf := field5_3
      have hi := sym_3_0
      go_wp2_with (fail)
      refine wp_region_quiet_below (by kernel_rfl) (by kernel_rfl) ?_
      repeat (quiet_step (first | (go_at_call 27; exact Calls.rg (kindOf_3 _))))
      refine wpQuiet_nil ?_
      rintro _ ⟨⟨dq, osq⟩, rfl⟩
      have hB := below_regrown w3 dq osq
      generalize Go.Sort.grow (redrawn w3 dq) osq = w4 at *
      have T0 := Lib.hid (HB.out.trans (hB.mono HB.out.size))
      clear hB HB HG hr0 hr4 hf hi
      go_wp2
      go_ret
      exact ⟨ret_int (by rw [HE.out]; rfl), T0.out⟩
    · have hr0 : ∀ d os, (Go.Sort.grow (redrawn w3 d) os).cell? ⟨w.heap.size, 0, none⟩ = some (.int .i64 (3)) := fun d os => rt_cell (block_regrown HG.out d os) 0
      have hr4 : ∀ d os, (Go.Sort.grow (redrawn w3 d) os).cell? ⟨w.heap.size, 4, none⟩ = some (.int .i64 (1)) := fun d os => rt_cell (block_regrown HG.out d os) 4
      have hf := field5_3
      have hi := sym_3_1
      go_wp2_with (fail)
      refine wp_region_quiet_below (by kernel_rfl) (by kernel_rfl) ?_
      repeat (quiet_step (first | (go_at_call 27; exact Calls.rg (kindOf_3 _))))
      refine wpQuiet_nil ?_
      rintro _ ⟨⟨dq, osq⟩, rfl⟩
      have hB := below_regrown w3 dq osq
      generalize Go.Sort.grow (redrawn w3 dq) osq = w4 at *
      have T0 := Lib.hid (HB.out.trans (hB.mono HB.out.size))
      clear hB HB HG hr0 hr4 hf hi
      go_wp2
      go_ret
      exact ⟨ret_int (by rw [HE.out]; rfl), T0.out⟩
  · obtain ⟨-, -, -, hg⟩ := valid_4 hv rfl
    have HE := Lib.hid (sym_at hv)
    clear hv
    dsimp only at hg HE
    rcases hg with rfl | rfl | rfl
    · have hr0 : ∀ d os, (Go.Sort.grow (redrawn w3 d) os).cell? ⟨w.heap.size, 0, none⟩ = some (.int .i64 (4)) := fun d os => rt_cell (block_regrown HG.out d os) 0
      have hr4 : ∀ d os, (Go.Sort.grow (redrawn w3 d) os).cell? ⟨w.heap.size, 4, none⟩ = some (.int .i64 (0)) := fun d os => rt_cell (block_regrown HG.out d os) 4
      have hf := field5_4
      have hi := sym_4_0
      go_wp2_with (fail)
      refine wp_region_quiet_below (by kernel_rfl) (by kernel_rfl) ?_
      repeat (quiet_step (first | (go_at_call 27; exact Calls.rg (kindOf_4 _))))
      refine wpQuiet_nil ?_
      rintro _ ⟨⟨dq, osq⟩, rfl⟩
      have hB := below_regrown w3 dq osq
      generalize Go.Sort.grow (redrawn w3 dq) osq = w4 at *
      have T0 := Lib.hid (HB.out.trans (hB.mono HB.out.size))
      clear hB HB HG hr0 hr4 hf hi
      go_wp2
      go_ret
      exact ⟨ret_int (by rw [HE.out]; rfl), T0.out⟩
    · have hr0 : ∀ d os, (Go.Sort.grow (redrawn w3 d) os).cell? ⟨w.heap.size, 0, none⟩ = some (.int .i64 (4)) := fun d os => rt_cell (block_regrown HG.out d os) 0
      have hr4 : ∀ d os, (Go.Sort.grow (redrawn w3 d) os).cell? ⟨w.heap.size, 4, none⟩ = some (.int .i64 (1)) := fun d os => rt_cell (block_regrown HG.out d os) 4
      have hf := field5_4
      have hi := sym_4_1
      go_wp2_with (fail)
      refine wp_region_quiet_below (by kernel_rfl) (by kernel_rfl) ?_
      repeat (quiet_step (first | (go_at_call 27; exact Calls.rg (kindOf_4 _))))
      refine wpQuiet_nil ?_
      rintro _ ⟨⟨dq, osq⟩, rfl⟩
      have hB := below_regrown w3 dq osq
      generalize Go.Sort.grow (redrawn w3 dq) osq = w4 at *
      have T0 := Lib.hid (HB.out.trans (hB.mono HB.out.size))
      clear hB HB HG hr0 hr4 hf hi
      go_wp2
      go_ret
      exact ⟨ret_int (by rw [HE.out]; rfl), T0.out⟩
    · have hr0 : ∀ d os, (Go.Sort.grow (redrawn w3 d) os).cell? ⟨w.heap.size, 0, none⟩ = some (.int .i64 (4)) := fun d os => rt_cell (block_regrown HG.out d os) 0
      have hr4 : ∀ d os, (Go.Sort.grow (redrawn w3 d) os).cell? ⟨w.heap.size, 4, none⟩ = some (.int .i64 (2)) := fun d os => rt_cell (block_regrown HG.out d os) 4
      have hf := field5_4
      have hi := sym_4_2
      go_wp2_with (fail)
      refine wp_region_quiet_below (by kernel_rfl) (by kernel_rfl) ?_
      repeat (quiet_step (first | (go_at_call 27; exact Calls.rg (kindOf_4 _))))
      refine wpQuiet_nil ?_
      rintro _ ⟨⟨dq, osq⟩, rfl⟩
      have hB := below_regrown w3 dq osq
      generalize Go.Sort.grow (redrawn w3 dq) osq = w4 at *
      have T0 := Lib.hid (HB.out.trans (hB.mono HB.out.size))
      clear hB HB HG hr0 hr4 hf hi
      go_wp2
      go_ret
      exact ⟨ret_int (by rw [HE.out]; rfl), T0.out⟩
set_option maxRecDepth 100000 in
set_option maxHeartbeats 8000000 in
theorem pre_any (r : Rt) (w : World) :
    Calls Tryd.prog 35 #[r.val] w fun e w' => e = .returned (.int .i64 (preR r)) ∧ Below w.heap.size w w' := by
  have HB := Lib.hid ((Below.refl w.heap.size w).alloc (Nat.le_refl _) (.cells r.arr 23))
  have HG := Lib.hid (heap_alloc_last w (.cells r.arr 23))
  go_enter Tryd.func35, Tryd.ntmps35
  go_wp2_with (fail)
  generalize World.alloc w _ = w2 at *
  refine (valid_any r w2).mono ?_
  rintro e w3 ⟨rfl, hB⟩
  have T0 := Lib.hid (HB.out.trans (hB.mono HB.out.size))
  have T1 := Lib.hid ((hB.block _ (lt_blk HG.out)).trans HG.out)
  clear hB HB HG
  have HB := T0
  have HG := T1
  clear T0 T1
  cases hv : validR r
  · have HE := Lib.hid (pre_no hv)
    clear hv
    go_wp2
    go_ret
    exact ⟨ret_int HE.out.symm, HB.out⟩
  obtain ⟨m, c, s, wd, g⟩ := r
  have hm : m = 1 ∨ m = 2 ∨ m = 3 ∨ m = 4 := valid_mode hv
  rcases hm with rfl | rfl | rfl | rfl
  · obtain ⟨-, hs, -, -⟩ := valid_1 hv rfl
    have HE := Lib.hid (pre_at hv)
    clear hv
    dsimp only at hs HE
    subst hs
    have hs0 : w3.cell? ⟨w.heap.size, 0, none⟩ = some (.int .i64 (1)) := rt_cell HG.out 0
    have hs2 : w3.cell? ⟨w.heap.size, 2, none⟩ = some (.int .i64 (1)) := rt_cell HG.out 2
    go_wp2_with (fail)
    refine (kindOf_any 1 w3).mono ?_
    rintro e w4 ⟨rfl, hB⟩
    have T0 := Lib.hid (HB.out.trans (hB.mono HB.out.size))
    have T1 := Lib.hid ((hB.block _ (lt_blk HG.out)).trans HG.out)
    clear hB HB HG hs0 hs2
    have HB := Lib.hid (T0.out.alloc T0.out.size (.cells (kindC 1) 54))
    have HG := Lib.hid (((Below.refl w4.heap.size w4).alloc (Nat.le_refl _) (.cells (kindC 1) 54)).block _ (lt_blk T1.out) |>.trans T1.out)
    have HK := Lib.hid (heap_alloc_last w4 (.cells (kindC 1) 54))
    clear T0 T1
    go_wp2_with (refine wpList_store_row rfl 54 (.tmp 3) (.tmp 9) rfl w4.heap.size (kindC 1) rfl rfl 54 zk (heap_alloc_last _ _) sizeKind rfl (kc_one _) ?_; rw [World.setRow_alloc_new]; generalize World.alloc w4 _ = w5 at *; generalize w4.heap.size = gk at *)
    have k6 : w5.cell? ⟨gk, 11, none⟩ = some (.int .i64 200) := kc_cell HK.out 11 (by omega)
    have k7 : w5.cell? ⟨gk, 12, none⟩ = some (.int .i64 0) := kc_cell HK.out 12 (by omega)
    have hs2 : w5.cell? ⟨w.heap.size, 2, none⟩ = some (.int .i64 (1)) := rt_cell HG.out 2
    go_quiet ((first | (go_at_call 38; exact Calls.quiet_of_same ((train_any 1 _ (by omega) (by omega)).mono fun e w' h => ⟨h.1, h.2.symm⟩))))
    go_wp2
    go_ret
    exact ⟨ret_int (by rw [HE.out]; first | rfl | (simp; omega)), below_drewN HB.out _⟩
  · obtain ⟨-, hs, -, -⟩ := valid_2 hv rfl
    have HE := Lib.hid (pre_at hv)
    clear hv
    dsimp only at hs HE
    have hs0 : w3.cell? ⟨w.heap.size, 0, none⟩ = some (.int .i64 (2)) := rt_cell HG.out 0
    have hs2 : w3.cell? ⟨w.heap.size, 2, none⟩ = some (.int .i64 (s)) := rt_cell HG.out 2
    go_wp2_with (fail)
    refine (kindOf_any 2 w3).mono ?_
    rintro e w4 ⟨rfl, hB⟩
    have T0 := Lib.hid (HB.out.trans (hB.mono HB.out.size))
    have T1 := Lib.hid ((hB.block _ (lt_blk HG.out)).trans HG.out)
    clear hB HB HG hs0 hs2
    have HB := Lib.hid (T0.out.alloc T0.out.size (.cells (kindC 2) 54))
    have HG := Lib.hid (((Below.refl w4.heap.size w4).alloc (Nat.le_refl _) (.cells (kindC 2) 54)).block _ (lt_blk T1.out) |>.trans T1.out)
    have HK := Lib.hid (heap_alloc_last w4 (.cells (kindC 2) 54))
    clear T0 T1
    go_wp2_with (refine wpList_store_row rfl 54 (.tmp 3) (.tmp 9) rfl w4.heap.size (kindC 2) rfl rfl 54 zk (heap_alloc_last _ _) sizeKind rfl (kc_one _) ?_; rw [World.setRow_alloc_new]; generalize World.alloc w4 _ = w5 at *; generalize w4.heap.size = gk at *)
    have k6 : w5.cell? ⟨gk, 11, none⟩ = some (.int .i64 320) := kc_cell HK.out 11 (by omega)
    have k7 : w5.cell? ⟨gk, 12, none⟩ = some (.int .i64 40) := kc_cell HK.out 12 (by omega)
    have hs2 : w5.cell? ⟨w.heap.size, 2, none⟩ = some (.int .i64 (s)) := rt_cell HG.out 2
    have HTA := Lib.hid (show ∀ w', Calls Tryd.prog 38 #[.int .i64 s] w' fun e w'' => e = .returned (.int .i64 (trainR s)) ∧ w' = w'' from fun w' => train_any s w' (by omega) (by omega))
    have ht : 1 ≤ trainR s ∧ trainR s ≤ 8 := train_in (by omega) (by omega)
    generalize htr : trainR s = t at *
    have HTR := Lib.hid htr
    clear htr
    have hw1 : IntKind.i64.wrap (t * 40) = t * 40 := IntWalk.i64_in _ ⟨by omega, by omega⟩
    have hw2 : IntKind.i64.wrap (320 + t * 40) = 320 + t * 40 := IntWalk.i64_in _ ⟨by omega, by omega⟩
    go_quiet ((first | (go_at_call 38; exact Calls.quiet_of_same ((HTA.out _).mono fun e w' h => ⟨h.1, h.2.symm⟩))))
    go_wp2
    go_ret
    exact ⟨ret_int (by rw [HE.out]; first | rfl | (simp; omega)), below_drewN HB.out _⟩
  · obtain ⟨-, hs, -, -⟩ := valid_3 hv rfl
    have HE := Lib.hid (pre_at hv)
    clear hv
    dsimp only at hs HE
    have hs0 : w3.cell? ⟨w.heap.size, 0, none⟩ = some (.int .i64 (3)) := rt_cell HG.out 0
    have hs2 : w3.cell? ⟨w.heap.size, 2, none⟩ = some (.int .i64 (s)) := rt_cell HG.out 2
    go_wp2_with (fail)
    refine (kindOf_any 3 w3).mono ?_
    rintro e w4 ⟨rfl, hB⟩
    have T0 := Lib.hid (HB.out.trans (hB.mono HB.out.size))
    have T1 := Lib.hid ((hB.block _ (lt_blk HG.out)).trans HG.out)
    clear hB HB HG hs0 hs2
    have HB := Lib.hid (T0.out.alloc T0.out.size (.cells (kindC 3) 54))
    have HG := Lib.hid (((Below.refl w4.heap.size w4).alloc (Nat.le_refl _) (.cells (kindC 3) 54)).block _ (lt_blk T1.out) |>.trans T1.out)
    have HK := Lib.hid (heap_alloc_last w4 (.cells (kindC 3) 54))
    clear T0 T1
    go_wp2_with (refine wpList_store_row rfl 54 (.tmp 3) (.tmp 9) rfl w4.heap.size (kindC 3) rfl rfl 54 zk (heap_alloc_last _ _) sizeKind rfl (kc_one _) ?_; rw [World.setRow_alloc_new]; generalize World.alloc w4 _ = w5 at *; generalize w4.heap.size = gk at *)
    have k6 : w5.cell? ⟨gk, 11, none⟩ = some (.int .i64 360) := kc_cell HK.out 11 (by omega)
    have k7 : w5.cell? ⟨gk, 12, none⟩ = some (.int .i64 40) := kc_cell HK.out 12 (by omega)
    have hs2 : w5.cell? ⟨w.heap.size, 2, none⟩ = some (.int .i64 (s)) := rt_cell HG.out 2
    have HTA := Lib.hid (show ∀ w', Calls Tryd.prog 38 #[.int .i64 s] w' fun e w'' => e = .returned (.int .i64 (trainR s)) ∧ w' = w'' from fun w' => train_any s w' (by omega) (by omega))
    have ht : 1 ≤ trainR s ∧ trainR s ≤ 8 := train_in (by omega) (by omega)
    generalize htr : trainR s = t at *
    have HTR := Lib.hid htr
    clear htr
    have hw1 : IntKind.i64.wrap (t * 40) = t * 40 := IntWalk.i64_in _ ⟨by omega, by omega⟩
    have hw2 : IntKind.i64.wrap (360 + t * 40) = 360 + t * 40 := IntWalk.i64_in _ ⟨by omega, by omega⟩
    go_quiet ((first | (go_at_call 38; exact Calls.quiet_of_same ((HTA.out _).mono fun e w' h => ⟨h.1, h.2.symm⟩))))
    go_wp2
    go_ret
    exact ⟨ret_int (by rw [HE.out]; first | rfl | (simp; omega)), below_drewN HB.out _⟩
  · obtain ⟨-, hs, -, -⟩ := valid_4 hv rfl
    have HE := Lib.hid (pre_at hv)
    clear hv
    dsimp only at hs HE
    have hs0 : w3.cell? ⟨w.heap.size, 0, none⟩ = some (.int .i64 (4)) := rt_cell HG.out 0
    have hs2 : w3.cell? ⟨w.heap.size, 2, none⟩ = some (.int .i64 (s)) := rt_cell HG.out 2
    go_wp2_with (fail)
    refine (kindOf_any 4 w3).mono ?_
    rintro e w4 ⟨rfl, hB⟩
    have T0 := Lib.hid (HB.out.trans (hB.mono HB.out.size))
    have T1 := Lib.hid ((hB.block _ (lt_blk HG.out)).trans HG.out)
    clear hB HB HG hs0 hs2
    have HB := Lib.hid (T0.out.alloc T0.out.size (.cells (kindC 4) 54))
    have HG := Lib.hid (((Below.refl w4.heap.size w4).alloc (Nat.le_refl _) (.cells (kindC 4) 54)).block _ (lt_blk T1.out) |>.trans T1.out)
    have HK := Lib.hid (heap_alloc_last w4 (.cells (kindC 4) 54))
    clear T0 T1
    go_wp2_with (refine wpList_store_row rfl 54 (.tmp 3) (.tmp 9) rfl w4.heap.size (kindC 4) rfl rfl 54 zk (heap_alloc_last _ _) sizeKind rfl (kc_one _) ?_; rw [World.setRow_alloc_new]; generalize World.alloc w4 _ = w5 at *; generalize w4.heap.size = gk at *)
    have k6 : w5.cell? ⟨gk, 11, none⟩ = some (.int .i64 360) := kc_cell HK.out 11 (by omega)
    have k7 : w5.cell? ⟨gk, 12, none⟩ = some (.int .i64 80) := kc_cell HK.out 12 (by omega)
    have hs2 : w5.cell? ⟨w.heap.size, 2, none⟩ = some (.int .i64 (s)) := rt_cell HG.out 2
    have HTA := Lib.hid (show ∀ w', Calls Tryd.prog 38 #[.int .i64 s] w' fun e w'' => e = .returned (.int .i64 (trainR s)) ∧ w' = w'' from fun w' => train_any s w' (by omega) (by omega))
    have ht : 1 ≤ trainR s ∧ trainR s ≤ 8 := train_in (by omega) (by omega)
    generalize htr : trainR s = t at *
    have HTR := Lib.hid htr
    clear htr
    have hw1 : IntKind.i64.wrap (t * 80) = t * 80 := IntWalk.i64_in _ ⟨by omega, by omega⟩
    have hw2 : IntKind.i64.wrap (360 + t * 80) = 360 + t * 80 := IntWalk.i64_in _ ⟨by omega, by omega⟩
    go_quiet ((first | (go_at_call 38; exact Calls.quiet_of_same ((HTA.out _).mono fun e w' h => ⟨h.1, h.2.symm⟩))))
    go_wp2
    go_ret
    exact ⟨ret_int (by rw [HE.out]; first | rfl | (simp; omega)), below_drewN HB.out _⟩
end Go.Proofs.YtlkoleannlpflaaDoor
